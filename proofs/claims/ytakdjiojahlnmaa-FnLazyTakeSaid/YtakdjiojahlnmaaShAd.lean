/- What the claim LLazyTake stands on, part 4 of 6: texts of one seat put together, with what the claim needs of them. No conditions. -/
import Derived.Test.YtakdjiojahlnmaaShAc
namespace Go.Proofs.Ytakdjiojahlnmaa
open Go.RowKit
set_option maxRecDepth 100000
/-- a heap whose blocks from lo on may be read in every later world that has left them alone -/
def HF (w : World) (lo : Nat) (A : Option Addr) (n : Nat) (R : Option Addr) (m : Nat) (h : Hp) : Prop :=
  ∀ w', w.heap.size ≤ w'.heap.size → (∀ j, lo ≤ j → j < w.heap.size → w'.heap[j]? = w.heap[j]?) → HS w' w'.heap.size A n R m h
theorem row_same {w w' : World} {base lo n : Nat} {e : TypeId} {s : Nat} {v : Value} {xs : List Value} (h : w.ownsRow base e s v n xs) (hl : lo ≤ base) (hb : ∀ j, lo ≤ j → j < w.heap.size → w'.heap[j]? = w.heap[j]?) : w'.ownsRow base e s v n xs := by
  refine ⟨h.1, ?_⟩
  rcases h.2 with h0 | ⟨g, cap, cur, e, hb', hh, hr⟩
  · exact .inl h0
  · exact .inr ⟨g, cap, cur, e, hb', (hb g (by omega) (Array.getElem?_eq_some_iff.1 hh).1).trans hh, hr⟩
theorem OwnHx.same {w w' : World} {base lo : Nat} {vc vr : Value} {rvs : List Value} {h : Hp} (o : OwnHx w base vc vr rvs h) (hl : lo ≤ base) (hb : ∀ j, lo ≤ j → j < w.heap.size → w'.heap[j]? = w.heap[j]?) : OwnHx w' base vc vr rvs h :=
  ⟨o.len, row_same o.row hl hb, fun k c v hc hv => row_same (o.refs k c v hc hv) hl hb, row_same o.roots hl hb, o.sep⟩
theorem OwnHx.hf {w : World} {base lo n c m d : Nat} {A R : Option Addr} {rvs : List Value} {h : Hp} (o : OwnHx w base (.slice A n c) (.slice R m d) rvs h) (hl : lo ≤ base) : HF w lo A n R m h := fun _ _ hb => (o.same hl hb).reads
theorem OwnHx.caps {w : World} {base n c m d : Nat} {A R : Option Addr} {rvs : List Value} {h : Hp} (o : OwnHx w base (.slice A n c) (.slice R m d) rvs h) : n = h.cs.length ∧ m = h.rt.length ∧ n ≤ c ∧ m ≤ d := by
  obtain ⟨A', c', R', d', e1, e2, h1, h2, _⟩ := o.form
  injection e1 with e1 e3 e4
  injection e2 with e5 e6 e7
  subst e3 e4 e6 e7
  exact ⟨rfl, rfl, h1, h2⟩
theorem OwnHx.rootAddr {w : World} {base m d : Nat} {vc : Value} {R : Option Addr} {rvs : List Value} {h : Hp} (o : OwnHx w base vc (.slice R m d) rvs h) (hm : 0 < m) : ∃ g, R = some ⟨g, 0, none⟩ ∧ base ≤ g ∧ g < w.heap.size := by
  obtain ⟨A', c', R', d', e1, e2, h1, h2, _, fR⟩ := o.form
  injection e2 with e5 e6 e7
  subst e5 e6 e7
  exact fR hm
theorem IS.drop1 {w : World} {B m : Nat} {g : Nat} {xs : List Int} (h : IS w B (some ⟨g, 0, none⟩) (m + 1) xs) : IS w B (some ⟨g, 1, none⟩) m (xs.drop 1) := by
  refine ⟨by rw [List.length_drop, h.1]; omega, fun h0 => ?_⟩
  obtain ⟨g', o', e, hb, hc⟩ := h.2 (by omega)
  injection e with e
  injection e with e1 e2
  subst e1 e2
  refine ⟨g, 1, rfl, hb, fun k x hx => ?_⟩
  rw [List.getElem?_drop] at hx
  have := hc (1 + k) x hx
  rwa [Nat.zero_add] at this
theorem HF.more {w : World} {lo lo' n m : Nat} {A R : Option Addr} {h : Hp} (H : HF w lo A n R m h) (hl : lo' ≤ lo) : HF w lo' A n R m h := fun w' hs hb => H w' hs fun j hj hk => hb j (by omega) hk
theorem HF.reads {w : World} {lo n m : Nat} {A R : Option Addr} {h : Hp} (H : HF w lo A n R m h) : HS w w.heap.size A n R m h := H w (Nat.le_refl _) fun _ _ _ => rfl
theorem HF.below {w w' : World} {lo n m B : Nat} {A R : Option Addr} {h : Hp} (H : HF w lo A n R m h) (hb : Below B w w') (hB : w.heap.size ≤ B) : HF w' lo A n R m h := fun w'' hs hh =>
  H w'' (Nat.le_trans hb.size hs) fun j hj hk => (hh j hj (Nat.lt_of_lt_of_le hk hb.size)).trans (hb.block j (by omega))
theorem HF.far {w w' : World} {lo n m gr : Nat} {A R : Option Addr} {h : Hp} (H : HF w lo A n R m h) (hg : w.grownBy w' (some gr)) (hl : gr < lo) : HF w' lo A n R m h := fun w'' hs hh =>
  H w'' (Nat.le_trans hg.size hs) fun j hj hk => (hh j hj (Nat.lt_of_lt_of_le hk hg.size)).trans (hg.block j hk (fun e => by injection e with e; omega))
/-- a heap that is drawn is small -/
def SmallH (h : Hp) : Prop := h.cs.length ≤ 41 ∧ h.rt.length ≤ 4 ∧ (∀ c ∈ h.cs, c.r.length ≤ 3 ∧ (-1 ≤ c.d ∧ c.d ≤ 100) ∧ ∀ x ∈ c.r, -2 ≤ x ∧ x ≤ 100) ∧ ∀ x ∈ h.rt, -2 ≤ x ∧ x ≤ 100
theorem small_valid {h : Hp} (hv : Hps.validH h = true) : SmallH h := by
  obtain ⟨h1, h2, h3, h4⟩ := Hps.valid_iff.1 hv
  refine ⟨by omega, by omega, fun c hc => ?_, fun x hx => ?_⟩
  · have ok := Hps.okCell_iff.1 (h1 c hc)
    refine ⟨ok.2.2.1, ⟨by omega, by omega⟩, fun x hx => ?_⟩
    have := Hps.okRef_lo (Hps.okRefs_iff.1 ok.2.2.2 x hx)
    omega
  · have := Hps.okRef_lo (Hps.okRefs_iff.1 h4 x hx)
    omega
theorem SmallH.snoc {h : Hp} {cl : Cl} (hs : SmallH h) (hn : h.cs.length ≤ 40) (h1 : cl.r.length ≤ 3) (h2 : -1 ≤ cl.d ∧ cl.d ≤ 100) (h3 : ∀ x ∈ cl.r, -2 ≤ x ∧ x ≤ 100) : SmallH ⟨h.cs ++ [cl], h.rt⟩ := by
  obtain ⟨_, s2, s3, s4⟩ := hs
  refine ⟨by simp; omega, s2, fun c hc => ?_, s4⟩
  rcases List.mem_append.1 hc with hc | hc
  · exact s3 c hc
  · rw [List.mem_singleton] at hc
    subst hc
    exact ⟨h1, h2, h3⟩
theorem SmallH.setRoot {h : Hp} {i : Nat} {x : Int} (hs : SmallH h) (hx : -2 ≤ x ∧ x ≤ 100) : SmallH ⟨h.cs, h.rt.set i x⟩ := by
  obtain ⟨s1, s2, s3, s4⟩ := hs
  refine ⟨s1, by simpa using s2, s3, fun y hy => ?_⟩
  rcases List.mem_or_eq_of_mem_set hy with hy | rfl
  · exact s4 y hy
  · exact hx
theorem SmallH.drop1 {h : Hp} (hs : SmallH h) : SmallH ⟨h.cs, h.rt.drop 1⟩ := by
  obtain ⟨s1, s2, s3, s4⟩ := hs
  exact ⟨s1, by simp; omega, s3, fun y hy => s4 y (List.mem_of_mem_drop hy)⟩
theorem Hps.mutate_valid {h : Hp} (hv : Hps.validH h = true) {k j t : Nat} {c c' : Cl} (hc : h.cs[k]? = some c) (hu : c.u = true) (hc' : h.cs[t]? = some c') (hu' : c'.u = true) : Hps.validH ⟨h.cs.set k ⟨c.u, c.d, c.r.set j (t : Int)⟩, h.rt⟩ = true := by
  have ok := Hps.okCell_iff.1 (Hps.valid_cell hv hc)
  have hm := Hps.used_set (c' := ⟨c.u, c.d, c.r.set j (t : Int)⟩) hc (fun h => h)
  refine Hps.set_cell_valid hv hc (fun h => h) (Hps.okCell_iff.2 ⟨.inl hu, ok.2.1, by simpa using ok.2.2.1, Hps.okRefs_mono hm (Hps.okRefs_set ok.2.2.2 ?_)⟩)
  exact Hps.okRef_iff.2 (.inr ⟨by omega, Hps.usedAt_iff.2 ⟨c', by simpa using hc', hu'⟩⟩)
/-- a heap has been drawn -/
def DrewH (w : World) (gr N : Nat) (n : Int) (e : Ending) (w' : World) : Prop :=
  ∃ (A : Option Addr) (nn c : Nat) (R : Option Addr) (m d : Nat) (h : Hp), e = .returned (heapV A nn c R m d) ∧ nn ≤ c ∧ m ≤ d ∧ HF w' w.heap.size A nn R m h ∧ (n = 0 → Hps.validH h = true) ∧ SmallH h ∧ Rd w' gr (N + 700) ∧ w.grownBy w' (some gr)
/-- while a heap is drawn: the heap in the box b, the reader in gr -/
structure HpSt (w wr : World) (gr N b : Nat) (vc vr : Value) (rvs : List Value) (h : Hp) : Prop where
  own : OwnHx wr (w.heap.size + 1) vc vr rvs h
  apart : Apart (some b) (vc :: vr :: rvs)
  box : Rw wr b 26 #[vc, vr]
  res : Rw wr w.heap.size 26 #[.slice none 0 0, .slice none 0 0]
  rd : Rd wr gr N
  grown : w.grownBy wr (some gr)
  lo : w.heap.size + 1 ≤ b
  old : gr < w.heap.size
section
variable {w wr w1 : World} {gr N b g c d i k : Nat} {vc vr : Value} {rvs : List Value} {h : Hp} {cl : Cl}
theorem HpSt.pick {N' : Nat} (S : HpSt w wr gr N b vc vr rvs h) (hr : Rd w1 gr N') (hg : wr.grownBy w1 (some gr)) : HpSt w w1 gr N' b vc vr rvs h := by
  have h1 := S.lo
  have h2 := S.old
  exact ⟨S.own.far hg (S.own.apart_below (by omega)), S.apart, S.box.far hg (fun e => by injection e with e; omega), S.res.far hg (fun e => by injection e with e; omega), hr, World.grownBy.trans S.grown hg, h1, h2⟩
theorem HpSt.more {N' : Nat} (S : HpSt w wr gr N b vc vr rvs h) (hN : N ≤ N') : HpSt w wr gr N' b vc vr rvs h := ⟨S.own, S.apart, S.box, S.res, S.rd.more hN, S.grown, S.lo, S.old⟩
theorem HpSt.up (S : HpSt w wr gr N b vc vr rvs h) (hw : Below wr.heap.size wr w1) : HpSt w w1 gr N b vc vr rvs h :=
  ⟨S.own.below hw (Nat.le_refl _), S.apart, S.box.keep hw S.box.lt, S.res.keep hw S.res.lt, S.rd.below hw S.rd.lt, grown_below S.grown (hw.mono S.grown.size), S.lo, S.old⟩
theorem HpSt.alloc (S : HpSt w wr gr N b vc vr rvs h) (o : Obj) : HpSt w (wr.alloc o) gr N b vc vr rvs h := S.up ((Below.refl _ _).alloc (Nat.le_refl _) _)
theorem HpSt.into (S : HpSt w wr gr N b vc vr rvs h) {v : Value} (hv : v ∈ vc :: vr :: rvs) (hg : v.ownBlock = some g) {rvs' : List Value} {h' : Hp} (u : Value)
    (ho : OwnHx (wr.setCell ⟨g, i, none⟩ u) (w.heap.size + 1) vc vr rvs' h') (ha : ∀ v ∈ rvs', v.ownBlock = none ∨ v.ownBlock ≠ some b) : HpSt w (wr.setCell ⟨g, i, none⟩ u) gr N b vc vr rvs' h' := by
  have h1 := S.own.blocks hv hg
  have h3 := S.old
  have h2 : b ≠ g := by
    rcases S.apart v hv with e | e
    · rw [hg] at e; cases e
    · intro e'; rw [hg] at e; exact e (by rw [e'])
  have hb : Below g wr (wr.setCell ⟨g, i, none⟩ u) := (Below.refl g wr).setCell (p := ⟨g, i, none⟩) (Nat.le_refl _) u
  refine ⟨ho, ?_, S.box.other h2 u, S.res.other (by omega) u, S.rd.below hb (by omega), grown_below S.grown (hb.mono (by omega)), S.lo, h3⟩
  intro x hx
  simp only [List.mem_cons] at hx
  rcases hx with rfl | rfl | hx
  · exact S.apart x (by simp)
  · exact S.apart x (by simp)
  · exact ha x hx
theorem HpSt.root {m : Nat} (S : HpSt w wr gr N b vc (.slice (some ⟨g, 0, none⟩) m d) rvs h) (hm : h.rt.length = m) (x : Int) : HpSt w (wr.setCell ⟨g, i, none⟩ (.int .i64 x)) gr N b vc (.slice (some ⟨g, 0, none⟩) m d) rvs ⟨h.cs, h.rt.set i x⟩ := by
  subst hm
  exact S.into (v := .slice (some ⟨g, 0, none⟩) h.rt.length d) (by simp) rfl _ (S.own.root x) fun v hv => S.apart v (by simp [hv])
theorem HpSt.ref1 {m : Nat} (S : HpSt w wr gr N b vc vr rvs h) (hc : h.cs[k]? = some cl) (hv : rvs[k]? = some (.slice (some ⟨g, 0, none⟩) m d)) (hm : cl.r.length = m) (x : Int) : HpSt w (wr.setCell ⟨g, i, none⟩ (.int .i64 x)) gr N b vc vr rvs ⟨h.cs.set k ⟨cl.u, cl.d, cl.r.set i x⟩, h.rt⟩ := by
  subst hm
  exact S.into (v := .slice (some ⟨g, 0, none⟩) cl.r.length d) (by simp [List.mem_of_getElem? hv]) rfl _ (S.own.ref1 hc hv x) fun v hv => S.apart v (by simp [hv])
theorem HpSt.snoc {v9 v8 : Value} (S : HpSt w wr gr N b vc vr rvs h) (hG : wr.grownBy w1 vc.ownBlock)
    (o9 : w1.ownsRow (w.heap.size + 1) 45 3 v9 (h.cs.length + 1) (flatC h.cs rvs ++ [.bool cl.u, .int .i64 cl.d, v8])) (q : v9.ownBlock = vc.ownBlock ∨ v9.ownBlock = some wr.heap.size)
    (o8 : OwnI wr (w.heap.size + 1) v8 cl.r) (hap : ∀ v ∈ vc :: vr :: rvs, v8.ownBlock = none ∨ v8.ownBlock ≠ v.ownBlock) (h8b : v8.ownBlock ≠ some b) :
    HpSt w (w1.setCell ⟨b, 0, none⟩ v9) gr N b v9 vr (rvs ++ [v8]) ⟨h.cs ++ [cl], h.rt⟩ := by
  have hn := S.own.snoc hG o9 q o8 hap
  have hlo := S.lo
  have hbl := S.box.lt
  have hold := S.old
  have hvcb : some b ≠ vc.ownBlock := by
    rcases S.apart vc (by simp) with e | e
    · rw [e]; simp
    · exact fun h => e h.symm
  have ap : Apart (some b) (v9 :: vr :: (rvs ++ [v8])) := by
    intro v hv
    simp only [List.mem_cons, List.mem_append, List.not_mem_nil, or_false] at hv
    rcases hv with rfl | rfl | hv | rfl
    · right
      rcases q with e | e
      · rw [e]; exact fun h => hvcb h.symm
      · rw [e]; intro e'; injection e' with e'; omega
    · exact S.apart v (by simp)
    · exact S.apart v (by simp [hv])
    · exact .inr h8b
  have hB1 : Below (w.heap.size + 1) wr w1 := (Below.refl _ _).grown hG (by omega) (fun kk hk => (S.own.blocks (v := vc) (by simp) hk).1)
  have hB : Below (w.heap.size + 1) wr (w1.setCell ⟨b, 0, none⟩ v9) := hB1.setCell (p := ⟨b, 0, none⟩) hlo v9
  exact ⟨hn.far (put_any w1 b 0 v9) ap, ap, (Rw.far S.box hG hvcb).put 0 v9, S.res.keep hB (by omega), S.rd.below hB (by omega), grown_below S.grown (hB.mono (by omega)), hlo, hold⟩
/-- the end: the result's box is written -/
theorem HpSt.fin {n m : Nat} {A R : Option Addr} (S : HpSt w wr gr N b (.slice A n c) (.slice R m d) rvs h) (u u' : Value) :
    HF ((wr.setCell ⟨w.heap.size, 0, none⟩ u).setCell ⟨w.heap.size, 1, none⟩ u') w.heap.size A n R m h ∧ Rd ((wr.setCell ⟨w.heap.size, 0, none⟩ u).setCell ⟨w.heap.size, 1, none⟩ u') gr N ∧ w.grownBy ((wr.setCell ⟨w.heap.size, 0, none⟩ u).setCell ⟨w.heap.size, 1, none⟩ u') (some gr) := by
  have ap : Apart (some w.heap.size) (.slice A n c :: .slice R m d :: rvs) := S.own.apart_below (by omega)
  have hB : Below w.heap.size wr ((wr.setCell ⟨w.heap.size, 0, none⟩ u).setCell ⟨w.heap.size, 1, none⟩ u') := ((Below.refl w.heap.size wr).setCell (p := ⟨w.heap.size, 0, none⟩) (Nat.le_refl _) u).setCell (p := ⟨w.heap.size, 1, none⟩) (Nat.le_refl _) u'
  exact ⟨((S.own.far (put_any wr _ 0 u) ap).far (put_any _ _ 1 u') ap).hf (by omega), S.rd.below hB S.old, grown_below S.grown hB⟩
theorem HpSt.boxed (S : HpSt w wr gr N b vc vr rvs h) (u : Value) : OwnHx (wr.setCell ⟨b, 1, none⟩ u) (w.heap.size + 1) vc vr rvs h ∧ Rw (wr.setCell ⟨b, 1, none⟩ u) b 26 #[vc, u] ∧ Rw (wr.setCell ⟨b, 1, none⟩ u) w.heap.size 26 #[.slice none 0 0, .slice none 0 0] ∧ Rd (wr.setCell ⟨b, 1, none⟩ u) gr N ∧ w.grownBy (wr.setCell ⟨b, 1, none⟩ u) (some gr) := by
  have h1 := S.lo
  have h2 := S.old
  have hB : Below b wr (wr.setCell ⟨b, 1, none⟩ u) := (Below.refl b wr).setCell (p := ⟨b, 1, none⟩) (Nat.le_refl _) u
  exact ⟨S.own.far (put_any wr b 1 u) S.apart, S.box.put 1 u, S.res.keep hB (by omega), S.rd.below hB (by omega), grown_below S.grown (hB.mono (by omega))⟩
theorem fin_cut {n m : Nat} {A : Option Addr} (hold : gr < w.heap.size) (o : OwnHx wr (w.heap.size + 1) (.slice A n c) (.slice (some ⟨g, 0, none⟩) (m + 1) d) rvs h) (rd : Rd wr gr N) (gb : w.grownBy wr (some gr)) (u u' : Value) :
    HF ((wr.setCell ⟨w.heap.size, 0, none⟩ u).setCell ⟨w.heap.size, 1, none⟩ u') w.heap.size A n (some ⟨g, 1, none⟩) m ⟨h.cs, h.rt.drop 1⟩ ∧ Rd ((wr.setCell ⟨w.heap.size, 0, none⟩ u).setCell ⟨w.heap.size, 1, none⟩ u') gr N ∧ w.grownBy ((wr.setCell ⟨w.heap.size, 0, none⟩ u).setCell ⟨w.heap.size, 1, none⟩ u') (some gr) := by
  have ap : Apart (some w.heap.size) (.slice A n c :: .slice (some ⟨g, 0, none⟩) (m + 1) d :: rvs) := o.apart_below (by omega)
  have hB : Below w.heap.size wr ((wr.setCell ⟨w.heap.size, 0, none⟩ u).setCell ⟨w.heap.size, 1, none⟩ u') := ((Below.refl w.heap.size wr).setCell (p := ⟨w.heap.size, 0, none⟩) (Nat.le_refl _) u).setCell (p := ⟨w.heap.size, 1, none⟩) (Nat.le_refl _) u'
  have H := ((o.far (put_any wr _ 0 u) ap).far (put_any _ _ 1 u') ap).hf (lo := w.heap.size) (by omega)
  exact ⟨fun w' hs hb => ⟨(H w' hs hb).cells, (H w' hs hb).roots.drop1⟩, rd.below hB hold, grown_below gb hB⟩
/-- a new heap in the box -/
theorem HpSt.next {w5 : World} {vc' vr' : Value} {h' : Hp} (S : HpSt w wr gr N b vc vr rvs h) (B : Below wr.heap.size wr w5) (o : OwnH w5 wr.heap.size vc' vr' h') :
    ∃ rvs', HpSt w ((w5.setCell ⟨b, 0, none⟩ vc').setCell ⟨b, 1, none⟩ vr') gr N b vc' vr' rvs' h' := by
  have hb := S.box.lt
  have hlo := S.lo
  have hold := S.old
  obtain ⟨rvs', own⟩ := o
  have ap : Apart (some b) (vc' :: vr' :: rvs') := own.apart_below hb
  have hB0 : Below b w5 ((w5.setCell ⟨b, 0, none⟩ vc').setCell ⟨b, 1, none⟩ vr') := ((Below.refl b w5).setCell (p := ⟨b, 0, none⟩) (Nat.le_refl _) vc').setCell (p := ⟨b, 1, none⟩) (Nat.le_refl _) vr'
  have hB : Below b wr ((w5.setCell ⟨b, 0, none⟩ vc').setCell ⟨b, 1, none⟩ vr') := (B.mono (by omega)).trans hB0
  exact ⟨rvs', ((own.far (put_any w5 b 0 vc') ap).far (put_any _ b 1 vr') ap).base (by have := S.grown.size; omega), ap, ((S.box.keep B hb).put 0 vc').put 1 vr', S.res.keep hB (by omega), S.rd.below hB (by omega), grown_below S.grown (hB.mono (by omega)), hlo, hold⟩
end
set_option maxRecDepth 100000 in
set_option maxHeartbeats 16000000 in
theorem l20Heap_any (gr N : Nat) (n : Int) (w : World) (h : Rd w gr N) (hN : N ≤ 10000) (hn0 : 0 ≤ n) (hn : n ≤ 1000) :
    Calls Try.prog 37 #[.pointer (some ⟨gr, 0, none⟩), .int .i64 n] w (DrewH w gr N n) := by
  have hgl := h.lt
  have h0 : Rd (w.alloc (.cells #[.slice none 0 0, .slice none 0 0] 26)) gr N := h.below ((Below.refl w.heap.size w).alloc (Nat.le_refl _) _) hgl
  have r0 := Rw.new w 26 #[.slice none 0 0, .slice none 0 0]
  have g0 : w.grownBy (w.alloc (.cells #[.slice none 0 0, .slice none 0 0] 26)) (some gr) := World.grownBy_alloc _ _ _
  have z0 : w.heap.size + 1 = (w.alloc (.cells #[.slice none 0 0, .slice none 0 0] 26)).heap.size := by simp
  go_enter Try.func37, Try.ntmps37
  go_upto_region 1 with fail
  generalize w.alloc (.cells #[.slice none 0 0, .slice none 0 0] 26) = w0 at h0 r0 g0 z0 ⊢
  have HZ := Lib.hid z0
  clear z0
  go_wp2_with fail
  refine (l20Program_zero gr N _ h0 (by omega)).mono ?_
  rintro e w1 ⟨v, l, rfl, om, hok, hr1, g1⟩
  obtain ⟨A0, c0, rfl, -⟩ := om.form
  have hll := (Hps.okCms_iff.1 hok).2
  have rm := om.reads
  have hvl := Hps.runH_valid hok
  clear om hok h
  go_wp2_with fail
  refine (mRunHeap_any A0 l.length c0 l _ rm (by omega)).mono ?_
  rintro e w2 ⟨vc, vr, rfl, ⟨rvs, own⟩, b2⟩
  have s1 : w.heap.size + 1 ≤ w1.heap.size := by have := HZ.out; have := g1.size; omega
  have hq := Rw.new w2 26 #[vc, vr]
  have r1 := (r0.far g1 (fun e => by injection e with e; omega)).keep b2 (by omega)
  have bA : Below w2.heap.size w2 (w2.alloc (.cells #[vc, vr] 26)) := (Below.refl _ _).alloc (Nat.le_refl _) _
  have S : HpSt w (w2.alloc (.cells #[vc, vr] 26)) gr (N + 600) w2.heap.size vc vr rvs (Hps.runH l) :=
    ⟨(OwnHx.base (base' := w.heap.size + 1) own s1).below bA (Nat.le_refl _), own.apart_new (Nat.le_refl _), hq, r1.alloc _, (hr1.below b2 hr1.lt).below bA (by have := b2.size; omega), grown_below (World.grownBy.trans g0 g1) ((b2.mono (by omega)).trans (bA.mono (by have := b2.size; omega))), by have := b2.size; omega, hgl⟩
  obtain ⟨Ac, cc, Rc, dc, rfl, rfl, -⟩ := own.form
  obtain ⟨hh, ehh⟩ : ∃ hh, Hps.runH l = hh := ⟨_, rfl⟩
  rw [ehh] at S hvl ⊢
  have hvs := Hps.valid_iff.1 hvl
  obtain ⟨nn, hnn⟩ : ∃ nn, hh.cs.length = nn := ⟨_, rfl⟩
  have hn40 : nn ≤ 40 := by rw [← hnn]; exact hvs.2.1
  have hm4 := hvs.2.2.1
  rw [hnn, hm4] at S ⊢
  have HN := Lib.hid hnn
  have HM := Lib.hid hm4
  have HV := Lib.hid hvl
  clear hvs hnn hm4 hvl
  clear own ehh hq r1 bA s1 h0 r0 g0 HZ hr1 g1 rm hll hgl b2
  go_upto_region 2 with fail
  generalize w2.alloc (.cells #[.slice Ac nn cc, .slice Rc 4 dc] 26) = w3 at S ⊢
  generalize w2.heap.size = b at S ⊢
  go_wp2_with fail
  refine (pick_any _ _ _ _ S.rd (by omega) (by omega)).mono ?_
  rintro e w4 ⟨r, rfl, ar, cr, hr4, g4⟩
  replace S := S.pick hr4 g4
  clear hr4 g4 w3 w2 w1 w0
  go_upto_if 14 with fail
  go_cut [] from 9 (fun wc => ∃ (A1 : Option Addr) (n1 c1 : Nat) (R1 : Option Addr) (d1 : Nat) (rvs1 : List Value) (h1 : Hp), n1 ≤ 40 ∧ Hid (h1.cs.length = n1) ∧ Hid (h1.rt.length = 4) ∧ Hid (Hps.validH h1 = true) ∧ HpSt w wc gr (N + 601) b (.slice A1 n1 c1) (.slice R1 4 d1) rvs1 h1)
  case first =>
    by_cases hr0 : r = 0
    · have hs := S.own.reads
      have x0 : w4.cell? ⟨b, 0, none⟩ = some (.slice Ac nn cc) := S.box.cell 0
      have x1 : w4.cell? ⟨b, 1, none⟩ = some (.slice Rc 4 dc) := S.box.cell 1
      have HV2 := Lib.hid (Hps.collectH_valid HV.out)
      have SS := Lib.hid S
      subst hr0
      clear S ar cr
      go_wp2_with fail
      refine (mCollectSweep_any _ _ _ _ _ _ hh _ hs (by omega) (by omega)).mono ?_
      rintro e w5 ⟨vc, vr, rfl, oh, b5⟩
      obtain ⟨rvs', SN⟩ := SS.out.next b5 oh
      have bx := SS.out.box.keep b5 SS.out.box.lt
      obtain ⟨h2, eh2⟩ : ∃ h2, (Hps.collectH hh).1 = h2 := ⟨_, rfl⟩
      rw [eh2] at SN oh HV2
      have hvs := Hps.valid_iff.1 HV2.out
      obtain ⟨A2, c2, R2, d2, rfl, rfl, -⟩ := oh.form
      obtain ⟨n2, hn2⟩ : ∃ n2, h2.cs.length = n2 := ⟨_, rfl⟩
      have hn40' : n2 ≤ 40 := by rw [← hn2]; exact hvs.2.1
      have hm4' := hvs.2.2.1
      rw [hn2, hm4'] at SN ⊢
      have HN2 := Lib.hid hn2
      have HM2 := Lib.hid hm4'
      have y0 : w5.cell? ⟨b, 0, none⟩ = some (.slice Ac nn cc) := bx.cell 0
      have y1 : w5.cell? ⟨b, 1, none⟩ = some (.slice Rc 4 dc) := bx.cell 1
      have y2 : w5.frozen? ⟨b, 0, none⟩ = false := bx.frozen 0
      have y3 : w5.frozen? ⟨b, 1, none⟩ = false := bx.frozen 1
      have SH := Lib.hid SN
      clear oh eh2 bx hs x0 x1 b5 hvs hn2 hm4' SN
      go_wp2_with fail
      go_meet
      case rel => exact ⟨A2, n2, c2, R2, d2, rvs', h2, hn40', HN2, HM2, HV2, SH.out⟩
    · go_wp2_with fail
      go_meet
      case rel => exact ⟨Ac, nn, cc, Rc, dc, rvs, hh, hn40, HN, HM, HV, S⟩
  case rest =>
    clear S HV HN HM hn40 ar cr
    obtain ⟨A1, n1, c1, R1, d1, rvs1, h1, hn1, HN1, HM1, HV1, S⟩ := hcut
    clear hh rvs Ac cc Rc dc nn
    go_wp2_with fail
    refine (pick_any _ _ _ _ S.rd (by omega) (by omega)).mono ?_
    rintro e w5 ⟨r5, rfl, ar, cr, hr5, g5⟩
    replace S := S.pick hr5 g5
    have cr' : r5 < 6 := by omega
    obtain ⟨q, rfl⟩ := Int.eq_ofNat_of_zero_le ar
    clear hr5 g5 wc ar cr w4
    replace S := S.more (N' := N + 602 + 3 * (5 - q)) (by omega)
    go_upto_block 0 with fail
    go_cut [] from 9 (fun wc => ∃ (A1 : Option Addr) (nn c1 : Nat) (R1 : Option Addr) (d1 : Nat) (rvs1 : List Value) (h1 : Hp), nn ≤ 40 ∧ Hid (h1.cs.length = nn) ∧ Hid (h1.rt.length = 4) ∧ Hid (Hps.validH h1 = true) ∧ HpSt w wc gr (N + 617) b (.slice A1 nn c1) (.slice R1 4 d1) rvs1 h1)
    case first =>
      go_wp2_with fail
      go_loopw [6, 7, 8] (fun u6 u7 u8 wr => ∃ (k : Nat) (A1 : Option Addr) (nn c1 : Nat) (R1 : Option Addr) (d1 : Nat) (rvs1 : List Value) (h1 : Hp), k ≤ 5 ∧ u6 = .int .i64 k ∧ nn ≤ 40 ∧ Hid (h1.cs.length = nn) ∧ Hid (h1.rt.length = 4) ∧ Hid (Hps.validH h1 = true) ∧ HpSt w wr gr (N + 602 + 3 * (5 - k)) b (.slice A1 nn c1) (.slice R1 4 d1) rvs1 h1) (fun u6 _ _ _ => (intOf u6).toNat)
      case atStart => exact ⟨q, A1, n1, c1, R1, d1, rvs1, h1, by omega, rfl, hn1, HN1, HM1, HV1, S⟩
      case round =>
        clear S HN1 HM1 HV1 hn1 h1 rvs1 A1 c1 R1 d1 n1
        obtain ⟨k, A1, nn, c1, R1, d1, rvs1, h1, hk, rfl, hn40, HN, HM, HV, S⟩ := hrel
        have x0 : wr.cell? ⟨b, 0, none⟩ = some (.slice A1 nn c1) := S.box.cell 0
        have x1 : wr.cell? ⟨b, 1, none⟩ = some (.slice R1 4 d1) := S.box.cell 1
        by_cases hk0 : 0 < k
        · have hk0' : (0 : Int) < k := by omega
          by_cases hne : 0 < nn
          · have hne' : (0 : Int) < nn := by omega
            go_wp2_with fail
            refine (pick_any _ _ _ _ S.rd (by omega) (by omega)).mono ?_
            rintro e w5 ⟨i1, rfl, a1, cr1, hr1, g1⟩
            replace S := S.pick hr1 g1
            obtain ⟨ka, rfl⟩ := Int.eq_ofNat_of_zero_le a1
            have hka : ka < nn := by omega
            have x0' : w5.cell? ⟨b, 0, none⟩ = some (.slice A1 nn c1) := S.box.cell 0
            have x1' : w5.cell? ⟨b, 1, none⟩ = some (.slice R1 4 d1) := S.box.cell 1
            clear hr1 g1 a1 cr1 x0 x1
            go_wp2_with fail
            refine (pick_any _ _ _ _ S.rd (by omega) (by omega)).mono ?_
            rintro e w6 ⟨i2, rfl, a2, cr2, hr2, g2⟩
            replace S := S.pick hr2 g2
            obtain ⟨kt, rfl⟩ := Int.eq_ofNat_of_zero_le a2
            have hkt : kt < nn := by omega
            have x0 : w6.cell? ⟨b, 0, none⟩ = some (.slice A1 nn c1) := S.box.cell 0
            have x1 : w6.cell? ⟨b, 1, none⟩ = some (.slice R1 4 d1) := S.box.cell 1
            clear hr2 g2 a2 cr2 x0' x1'
            obtain ⟨ca, hca⟩ : ∃ ca, h1.cs[ka]? = some ca := ⟨_, List.getElem?_eq_getElem (by rw [HN.out]; exact hka)⟩
            obtain ⟨ct, hct⟩ : ∃ ct, h1.cs[kt]? = some ct := ⟨_, List.getElem?_eq_getElem (by rw [HN.out]; exact hkt)⟩
            obtain ⟨gc, va, e1, hgc1, hgc2, hra, hoa, d0, d1', d2, fzc⟩ := S.own.cell_at hca
            obtain ⟨gc', vt, e2, -, -, -, -, d0', -, -, -⟩ := S.own.cell_at hct
            subst e1
            injection e2 with e2
            injection e2 with e2
            subst e2
            obtain ⟨Av, cv, rfl, fv⟩ := hoa.form
            obtain ⟨mr, hmr⟩ : ∃ mr, ca.r.length = mr := ⟨_, rfl⟩
            have hmr3 : mr ≤ 3 := by rw [← hmr]; exact (Hps.okCell_iff.1 (Hps.valid_cell HV.out hca)).2.2.1
            rw [hmr] at d2 hra hoa fv
            have HA := Lib.hid hca
            have HT := Lib.hid hct
            have HR := Lib.hid hra
            have HL := Lib.hid hmr
            have hka' : (ka : Int) < nn := by omega
            have hkt' : (kt : Int) < nn := by omega
            clear hca hct hra hmr d1' hgc2 fzc hoa
            have SS := Lib.hid (S.more (N' := N + 602 + 3 * (5 - (k - 1))) (by omega))
            have SR := Lib.hid S
            clear S
            cases hua : ca.u
            · rw [hua] at d0
              go_wp2_with fail
              go_roundw
              case rel => exact ⟨k - 1, _, nn, c1, R1, d1, rvs1, h1, by omega, int_eq (by omega), hn40, HN, HM, HV, SS.out⟩
              case measure => simp [intOf]; omega
            rw [hua] at d0
            cases hut : ct.u
            · rw [hut] at d0'
              go_wp2_with fail
              go_roundw
              case rel => exact ⟨k - 1, _, nn, c1, R1, d1, rvs1, h1, by omega, int_eq (by omega), hn40, HN, HM, HV, SS.out⟩
              case measure => simp [intOf]; omega
            rw [hut] at d0'
            by_cases hmz : 0 < mr
            case neg =>
              obtain rfl : mr = 0 := by omega
              go_wp2_with fail
              go_roundw
              case rel => exact ⟨k - 1, _, nn, c1, R1, d1, rvs1, h1, by omega, int_eq (by omega), hn40, HN, HM, HV, SS.out⟩
              case measure => simp [intOf]; omega
            obtain ⟨gv, rfl, hgv1, hgv2⟩ := fv hmz
            have hmz' : (0 : Int) < mr := by omega
            have HUA := Lib.hid hua
            have HUT := Lib.hid hut
            have hlo := SR.out.lo
            have hold := SR.out.old
            clear hua hut fv SS
            go_wp2_with fail
            refine wp_region_inv (by kernel_rfl) (by kernel_rfl) (fun L ac ww => ∃ t66 t67 t68 t69 t70 t71 t72 t73 t74 t75 t76 t77 t78 t79 t80 t81 t82 : Value, ac = { tmps := #[Value.pointer (some { block := gr, off := 0 }), Value.int IntKind.i64 n, undef, undef, Value.pointer (some { block := w.heap.size, off := 0 }), Value.pointer (some { block := b, off := 0 }), Value.int IntKind.i64 ↑k, Value.int IntKind.i64 ↑ka, Value.int IntKind.i64 ↑kt, u9, u10, u11, u12, u13, u14, u15, u16, u17, u18, u19, Value.pointer (some { block := gr, off := 0 }), Value.int IntKind.i64 ↑q, Value.int IntKind.i64 ↑k, Value.bool true, Value.bool true, Value.pointer (some { block := b, off := 0 }), Value.slice (some { block := gc, off := 0 }) nn c1, Value.int IntKind.i64 ↑nn, Value.bool true, Value.bool true, u30, u31, Value.pointer (some { block := gr, off := 0 }), Value.pointer (some { block := b, off := 0 }), Value.slice (some { block := gc, off := 0 }) nn c1, Value.int IntKind.i64 ↑nn, Value.int IntKind.i64 ↑ka, Value.pointer (some { block := gr, off := 0 }), Value.pointer (some { block := b, off := 0 }), Value.slice (some { block := gc, off := 0 }) nn c1, Value.int IntKind.i64 ↑nn, Value.int IntKind.i64 ↑kt, Value.pointer (some { block := b, off := 0 }), Value.slice (some { block := gc, off := 0 }) nn c1, Value.int IntKind.i64 ↑ka, Value.pointer (some { block := gc, off := ka * 3 }), Value.pointer (some { block := gc, off := ka * 3 }), Value.bool true, Value.bool true, Value.pointer (some { block := b, off := 0 }), Value.slice (some { block := gc, off := 0 }) nn c1, Value.int IntKind.i64 ↑kt, Value.pointer (some { block := gc, off := kt * 3 }), Value.pointer (some { block := gc, off := kt * 3 }), Value.bool true, Value.bool true, Value.bool true, Value.pointer (some { block := b, off := 0 }), Value.slice (some { block := gc, off := 0 }) nn c1, Value.int IntKind.i64 ↑ka, Value.pointer (some { block := gc, off := ka * 3 }), Value.pointer (some { block := gc, off := ka * 3 + 2 }), Value.slice (some { block := gv, off := 0 }) mr cv, Value.int IntKind.i64 ↑mr, Value.bool true, Value.bool true, t66, t67, t68, t69, t70, t71, t72, t73, t74, t75, t76, t77, t78, t79, t80, t81, t82, u83, u84, u85, u86, u87, u88, u89, u90, u91, u92, u93, u94, u95, u96, u97, u98, u99, u100, u101, u102, u103, u104, u105, u106, u107, u108, u109, u110, u111, u112, u113, u114, u115, u116, u117, u118, u119, u120, u121, u122, u123, u124, u125, u126, u127, u128, u129, u130, u131, u132, u133, u134, u135, u136, u137, u138, u139, u140, u141], defers := [] } ∧ (L 17 = false → Rd ww gr (N + 602 + 3 * (5 - k) + 1 + 1 + (L 14).toNat) ∧ w6.grownBy ww (some gr)) ∧ (L 17 = true → ∀ q, q < 17 → L q = true) ∧ (L 0 = true → t66 = (.pointer (some ⟨b, 0, none⟩))) ∧ (L 1 = true → t67 = (.slice (some ⟨gc, 0, none⟩) nn c1)) ∧ (L 2 = true → t68 = .int .i64 ka) ∧ (L 3 = true → t69 = (.pointer (some ⟨gc, ka * 3, none⟩))) ∧ (L 4 = true → t70 = (.pointer (some ⟨gc, ka * 3 + 2, none⟩))) ∧ (L 5 = true → t71 = (.slice (some ⟨gv, 0, none⟩) mr cv)) ∧ (L 6 = true → t72 = (.pointer (some ⟨gr, 0, none⟩))) ∧ (L 7 = true → t73 = (.pointer (some ⟨b, 0, none⟩))) ∧ (L 8 = true → t74 = (.slice (some ⟨gc, 0, none⟩) nn c1)) ∧ (L 9 = true → t75 = .int .i64 ka) ∧ (L 10 = true → t76 = (.pointer (some ⟨gc, ka * 3, none⟩))) ∧ (L 11 = true → t77 = (.pointer (some ⟨gc, ka * 3 + 2, none⟩))) ∧ (L 12 = true → t78 = (.slice (some ⟨gv, 0, none⟩) mr cv)) ∧ (L 13 = true → t79 = .int .i64 mr) ∧ (L 14 = true → ∃ j : Nat, t80 = .int .i64 j ∧ j < mr) ∧ (L 15 = true → t81 = .int .i64 kt) ∧ (L 16 = true → ∃ j : Nat, t82 = .pointer (some ⟨gv, j, none⟩) ∧ j < mr) ∧ (L 17 = true → ∃ (j : Nat) (w1 : World), j < mr ∧ ww = w1.setCell ⟨gv, j, none⟩ (.int .i64 kt) ∧ Rd w1 gr (N + 602 + 3 * (5 - k) + 1 + 1 + 1) ∧ w6.grownBy w1 (some gr))) ?h0 ?hstep ?hdone
            case h0 => exact ⟨_, _, _, _, _, _, _, _, _, _, _, _, _, _, _, _, _, rfl, fun _ => ⟨by simpa using SR.out.rd.below (Below.refl _ _).drew SR.out.rd.lt, grown_below (World.grownBy.refl _ _) (Below.refl _ _).drew⟩, fun h => absurd h Bool.false_ne_true, (fun h => absurd h Bool.false_ne_true), (fun h => absurd h Bool.false_ne_true), (fun h => absurd h Bool.false_ne_true), (fun h => absurd h Bool.false_ne_true), (fun h => absurd h Bool.false_ne_true), (fun h => absurd h Bool.false_ne_true), (fun h => absurd h Bool.false_ne_true), (fun h => absurd h Bool.false_ne_true), (fun h => absurd h Bool.false_ne_true), (fun h => absurd h Bool.false_ne_true), (fun h => absurd h Bool.false_ne_true), (fun h => absurd h Bool.false_ne_true), (fun h => absurd h Bool.false_ne_true), (fun h => absurd h Bool.false_ne_true), (fun h => absurd h Bool.false_ne_true), (fun h => absurd h Bool.false_ne_true), (fun h => absurd h Bool.false_ne_true), (fun h => absurd h Bool.false_ne_true)⟩
            case hstep =>
              rintro L ac ww i o ho hL hd ⟨t66, t67, t68, t69, t70, t71, t72, t73, t74, t75, t76, t77, t78, t79, t80, t81, t82, rfl, I0, I1, f0, f1, f2, f3, f4, f5, f6, f7, f8, f9, f10, f11, f12, f13, f14, f15, f16, f17⟩
              have hi : i < 18 := (Array.getElem?_eq_some_iff.1 ho).1
              obtain rfl | rfl | rfl | rfl | rfl | rfl | rfl | rfl | rfl | rfl | rfl | rfl | rfl | rfl | rfl | rfl | rfl | rfl : i = 0 ∨ i = 1 ∨ i = 2 ∨ i = 3 ∨ i = 4 ∨ i = 5 ∨ i = 6 ∨ i = 7 ∨ i = 8 ∨ i = 9 ∨ i = 10 ∨ i = 11 ∨ i = 12 ∨ i = 13 ∨ i = 14 ∨ i = 15 ∨ i = 16 ∨ i = 17 := by omega
              · obtain rfl := Option.some.inj ho
                have h17 : L 17 = false := by
                  cases e : L 17
                  · rfl
                  · exact absurd (I1 e 0 (by decide)) (by rw [hL]; simp)
                obtain ⟨rd, gb⟩ := I0 h17
                refine wpOp_step rfl (fun K' hK => ?_)
                go_simp
                refine hK _ _ ?_
                exact ⟨_, _, _, _, _, _, _, _, _, _, _, _, _, _, _, _, _, rfl, (fun _ => ⟨by rw [upd_other (by decide)]; exact rd, gb⟩), (upd_all I1 (by decide)), (fun _ => by first | rfl | simp), (kp f1), (kp f2), (kp f3), (kp f4), (kp f5), (kp f6), (kp f7), (kp f8), (kp f9), (kp f10), (kp f11), (kp f12), (kp f13), (kp f14), (kp f15), (kp f16), (fun h => absurd (upd_ne h (by decide)) (by rw [h17]; simp))⟩
              · obtain rfl := Option.some.inj ho
                have g0 := f0 (hd ⟨0, .data⟩ (by simp) rfl)
                subst g0
                have h17 : L 17 = false := by
                  cases e : L 17
                  · rfl
                  · exact absurd (I1 e 1 (by decide)) (by rw [hL]; simp)
                obtain ⟨rd, gb⟩ := I0 h17
                have y0 : ww.cell? ⟨b, 0, none⟩ = some (.slice (some ⟨gc, 0, none⟩) nn c1) := gb.cell x0 (fun e => by injection e with e; simp only at e; omega)
                refine wpOp_step rfl (fun K' hK => ?_)
                go_simp
                refine hK _ _ ?_
                exact ⟨_, _, _, _, _, _, _, _, _, _, _, _, _, _, _, _, _, rfl, (fun _ => ⟨by rw [upd_other (by decide)]; exact rd, gb⟩), (upd_all I1 (by decide)), (kp f0), (fun _ => by first | rfl | simp), (kp f2), (kp f3), (kp f4), (kp f5), (kp f6), (kp f7), (kp f8), (kp f9), (kp f10), (kp f11), (kp f12), (kp f13), (kp f14), (kp f15), (kp f16), (fun h => absurd (upd_ne h (by decide)) (by rw [h17]; simp))⟩
              · obtain rfl := Option.some.inj ho
                have h17 : L 17 = false := by
                  cases e : L 17
                  · rfl
                  · exact absurd (I1 e 2 (by decide)) (by rw [hL]; simp)
                obtain ⟨rd, gb⟩ := I0 h17
                refine wpOp_step rfl (fun K' hK => ?_)
                go_simp
                refine hK _ _ ?_
                exact ⟨_, _, _, _, _, _, _, _, _, _, _, _, _, _, _, _, _, rfl, (fun _ => ⟨by rw [upd_other (by decide)]; exact rd, gb⟩), (upd_all I1 (by decide)), (kp f0), (kp f1), (fun _ => by first | rfl | simp), (kp f3), (kp f4), (kp f5), (kp f6), (kp f7), (kp f8), (kp f9), (kp f10), (kp f11), (kp f12), (kp f13), (kp f14), (kp f15), (kp f16), (fun h => absurd (upd_ne h (by decide)) (by rw [h17]; simp))⟩
              · obtain rfl := Option.some.inj ho
                have g1 := f1 (hd ⟨1, .data⟩ (by simp) rfl)
                have g2 := f2 (hd ⟨2, .data⟩ (by simp) rfl)
                subst g1
                subst g2
                have h17 : L 17 = false := by
                  cases e : L 17
                  · rfl
                  · exact absurd (I1 e 3 (by decide)) (by rw [hL]; simp)
                obtain ⟨rd, gb⟩ := I0 h17
                refine wpOp_step rfl (fun K' hK => ?_)
                go_simp
                refine hK _ _ ?_
                exact ⟨_, _, _, _, _, _, _, _, _, _, _, _, _, _, _, _, _, rfl, (fun _ => ⟨by rw [upd_other (by decide)]; exact rd, gb⟩), (upd_all I1 (by decide)), (kp f0), (kp f1), (kp f2), (fun _ => by first | rfl | simp), (kp f4), (kp f5), (kp f6), (kp f7), (kp f8), (kp f9), (kp f10), (kp f11), (kp f12), (kp f13), (kp f14), (kp f15), (kp f16), (fun h => absurd (upd_ne h (by decide)) (by rw [h17]; simp))⟩
              · obtain rfl := Option.some.inj ho
                have g3 := f3 (hd ⟨3, .data⟩ (by simp) rfl)
                subst g3
                have h17 : L 17 = false := by
                  cases e : L 17
                  · rfl
                  · exact absurd (I1 e 4 (by decide)) (by rw [hL]; simp)
                obtain ⟨rd, gb⟩ := I0 h17
                refine wpOp_step rfl (fun K' hK => ?_)
                go_simp
                refine hK _ _ ?_
                exact ⟨_, _, _, _, _, _, _, _, _, _, _, _, _, _, _, _, _, rfl, (fun _ => ⟨by rw [upd_other (by decide)]; exact rd, gb⟩), (upd_all I1 (by decide)), (kp f0), (kp f1), (kp f2), (kp f3), (fun _ => by first | rfl | simp), (kp f5), (kp f6), (kp f7), (kp f8), (kp f9), (kp f10), (kp f11), (kp f12), (kp f13), (kp f14), (kp f15), (kp f16), (fun h => absurd (upd_ne h (by decide)) (by rw [h17]; simp))⟩
              · obtain rfl := Option.some.inj ho
                have g4 := f4 (hd ⟨4, .data⟩ (by simp) rfl)
                subst g4
                have h17 : L 17 = false := by
                  cases e : L 17
                  · rfl
                  · exact absurd (I1 e 5 (by decide)) (by rw [hL]; simp)
                obtain ⟨rd, gb⟩ := I0 h17
                have y0 : ww.cell? ⟨gc, ka * 3 + 2, none⟩ = some (.slice (some ⟨gv, 0, none⟩) mr cv) := gb.cell d2 (fun e => by injection e with e; simp only at e; omega)
                refine wpOp_step rfl (fun K' hK => ?_)
                go_simp
                refine hK _ _ ?_
                exact ⟨_, _, _, _, _, _, _, _, _, _, _, _, _, _, _, _, _, rfl, (fun _ => ⟨by rw [upd_other (by decide)]; exact rd, gb⟩), (upd_all I1 (by decide)), (kp f0), (kp f1), (kp f2), (kp f3), (kp f4), (fun _ => by first | rfl | simp), (kp f6), (kp f7), (kp f8), (kp f9), (kp f10), (kp f11), (kp f12), (kp f13), (kp f14), (kp f15), (kp f16), (fun h => absurd (upd_ne h (by decide)) (by rw [h17]; simp))⟩
              · obtain rfl := Option.some.inj ho
                have h17 : L 17 = false := by
                  cases e : L 17
                  · rfl
                  · exact absurd (I1 e 6 (by decide)) (by rw [hL]; simp)
                obtain ⟨rd, gb⟩ := I0 h17
                refine wpOp_step rfl (fun K' hK => ?_)
                go_simp
                refine hK _ _ ?_
                exact ⟨_, _, _, _, _, _, _, _, _, _, _, _, _, _, _, _, _, rfl, (fun _ => ⟨by rw [upd_other (by decide)]; exact rd, gb⟩), (upd_all I1 (by decide)), (kp f0), (kp f1), (kp f2), (kp f3), (kp f4), (kp f5), (fun _ => by first | rfl | simp), (kp f7), (kp f8), (kp f9), (kp f10), (kp f11), (kp f12), (kp f13), (kp f14), (kp f15), (kp f16), (fun h => absurd (upd_ne h (by decide)) (by rw [h17]; simp))⟩
              · obtain rfl := Option.some.inj ho
                have h17 : L 17 = false := by
                  cases e : L 17
                  · rfl
                  · exact absurd (I1 e 7 (by decide)) (by rw [hL]; simp)
                obtain ⟨rd, gb⟩ := I0 h17
                refine wpOp_step rfl (fun K' hK => ?_)
                go_simp
                refine hK _ _ ?_
                exact ⟨_, _, _, _, _, _, _, _, _, _, _, _, _, _, _, _, _, rfl, (fun _ => ⟨by rw [upd_other (by decide)]; exact rd, gb⟩), (upd_all I1 (by decide)), (kp f0), (kp f1), (kp f2), (kp f3), (kp f4), (kp f5), (kp f6), (fun _ => by first | rfl | simp), (kp f8), (kp f9), (kp f10), (kp f11), (kp f12), (kp f13), (kp f14), (kp f15), (kp f16), (fun h => absurd (upd_ne h (by decide)) (by rw [h17]; simp))⟩
              · obtain rfl := Option.some.inj ho
                have g7 := f7 (hd ⟨7, .data⟩ (by simp) rfl)
                subst g7
                have h17 : L 17 = false := by
                  cases e : L 17
                  · rfl
                  · exact absurd (I1 e 8 (by decide)) (by rw [hL]; simp)
                obtain ⟨rd, gb⟩ := I0 h17
                have y0 : ww.cell? ⟨b, 0, none⟩ = some (.slice (some ⟨gc, 0, none⟩) nn c1) := gb.cell x0 (fun e => by injection e with e; simp only at e; omega)
                refine wpOp_step rfl (fun K' hK => ?_)
                go_simp
                refine hK _ _ ?_
                exact ⟨_, _, _, _, _, _, _, _, _, _, _, _, _, _, _, _, _, rfl, (fun _ => ⟨by rw [upd_other (by decide)]; exact rd, gb⟩), (upd_all I1 (by decide)), (kp f0), (kp f1), (kp f2), (kp f3), (kp f4), (kp f5), (kp f6), (kp f7), (fun _ => by first | rfl | simp), (kp f9), (kp f10), (kp f11), (kp f12), (kp f13), (kp f14), (kp f15), (kp f16), (fun h => absurd (upd_ne h (by decide)) (by rw [h17]; simp))⟩
              · obtain rfl := Option.some.inj ho
                have h17 : L 17 = false := by
                  cases e : L 17
                  · rfl
                  · exact absurd (I1 e 9 (by decide)) (by rw [hL]; simp)
                obtain ⟨rd, gb⟩ := I0 h17
                refine wpOp_step rfl (fun K' hK => ?_)
                go_simp
                refine hK _ _ ?_
                exact ⟨_, _, _, _, _, _, _, _, _, _, _, _, _, _, _, _, _, rfl, (fun _ => ⟨by rw [upd_other (by decide)]; exact rd, gb⟩), (upd_all I1 (by decide)), (kp f0), (kp f1), (kp f2), (kp f3), (kp f4), (kp f5), (kp f6), (kp f7), (kp f8), (fun _ => by first | rfl | simp), (kp f10), (kp f11), (kp f12), (kp f13), (kp f14), (kp f15), (kp f16), (fun h => absurd (upd_ne h (by decide)) (by rw [h17]; simp))⟩
              · obtain rfl := Option.some.inj ho
                have g8 := f8 (hd ⟨8, .data⟩ (by simp) rfl)
                have g9 := f9 (hd ⟨9, .data⟩ (by simp) rfl)
                subst g8
                subst g9
                have h17 : L 17 = false := by
                  cases e : L 17
                  · rfl
                  · exact absurd (I1 e 10 (by decide)) (by rw [hL]; simp)
                obtain ⟨rd, gb⟩ := I0 h17
                refine wpOp_step rfl (fun K' hK => ?_)
                go_simp
                refine hK _ _ ?_
                exact ⟨_, _, _, _, _, _, _, _, _, _, _, _, _, _, _, _, _, rfl, (fun _ => ⟨by rw [upd_other (by decide)]; exact rd, gb⟩), (upd_all I1 (by decide)), (kp f0), (kp f1), (kp f2), (kp f3), (kp f4), (kp f5), (kp f6), (kp f7), (kp f8), (kp f9), (fun _ => by first | rfl | simp), (kp f11), (kp f12), (kp f13), (kp f14), (kp f15), (kp f16), (fun h => absurd (upd_ne h (by decide)) (by rw [h17]; simp))⟩
              · obtain rfl := Option.some.inj ho
                have g10 := f10 (hd ⟨10, .data⟩ (by simp) rfl)
                subst g10
                have h17 : L 17 = false := by
                  cases e : L 17
                  · rfl
                  · exact absurd (I1 e 11 (by decide)) (by rw [hL]; simp)
                obtain ⟨rd, gb⟩ := I0 h17
                refine wpOp_step rfl (fun K' hK => ?_)
                go_simp
                refine hK _ _ ?_
                exact ⟨_, _, _, _, _, _, _, _, _, _, _, _, _, _, _, _, _, rfl, (fun _ => ⟨by rw [upd_other (by decide)]; exact rd, gb⟩), (upd_all I1 (by decide)), (kp f0), (kp f1), (kp f2), (kp f3), (kp f4), (kp f5), (kp f6), (kp f7), (kp f8), (kp f9), (kp f10), (fun _ => by first | rfl | simp), (kp f12), (kp f13), (kp f14), (kp f15), (kp f16), (fun h => absurd (upd_ne h (by decide)) (by rw [h17]; simp))⟩
              · obtain rfl := Option.some.inj ho
                have g11 := f11 (hd ⟨11, .data⟩ (by simp) rfl)
                subst g11
                have h17 : L 17 = false := by
                  cases e : L 17
                  · rfl
                  · exact absurd (I1 e 12 (by decide)) (by rw [hL]; simp)
                obtain ⟨rd, gb⟩ := I0 h17
                have y0 : ww.cell? ⟨gc, ka * 3 + 2, none⟩ = some (.slice (some ⟨gv, 0, none⟩) mr cv) := gb.cell d2 (fun e => by injection e with e; simp only at e; omega)
                refine wpOp_step rfl (fun K' hK => ?_)
                go_simp
                refine hK _ _ ?_
                exact ⟨_, _, _, _, _, _, _, _, _, _, _, _, _, _, _, _, _, rfl, (fun _ => ⟨by rw [upd_other (by decide)]; exact rd, gb⟩), (upd_all I1 (by decide)), (kp f0), (kp f1), (kp f2), (kp f3), (kp f4), (kp f5), (kp f6), (kp f7), (kp f8), (kp f9), (kp f10), (kp f11), (fun _ => by first | rfl | simp), (kp f13), (kp f14), (kp f15), (kp f16), (fun h => absurd (upd_ne h (by decide)) (by rw [h17]; simp))⟩
              · obtain rfl := Option.some.inj ho
                have g12 := f12 (hd ⟨12, .data⟩ (by simp) rfl)
                subst g12
                have h17 : L 17 = false := by
                  cases e : L 17
                  · rfl
                  · exact absurd (I1 e 13 (by decide)) (by rw [hL]; simp)
                obtain ⟨rd, gb⟩ := I0 h17
                refine wpOp_step rfl (fun K' hK => ?_)
                go_simp
                refine hK _ _ ?_
                exact ⟨_, _, _, _, _, _, _, _, _, _, _, _, _, _, _, _, _, rfl, (fun _ => ⟨by rw [upd_other (by decide)]; exact rd, gb⟩), (upd_all I1 (by decide)), (kp f0), (kp f1), (kp f2), (kp f3), (kp f4), (kp f5), (kp f6), (kp f7), (kp f8), (kp f9), (kp f10), (kp f11), (kp f12), (fun _ => by first | rfl | simp), (kp f14), (kp f15), (kp f16), (fun h => absurd (upd_ne h (by decide)) (by rw [h17]; simp))⟩
              · obtain rfl := Option.some.inj ho
                have g6 := f6 (hd ⟨6, .data⟩ (by simp) rfl)
                have g13 := f13 (hd ⟨13, .data⟩ (by simp) rfl)
                subst g6
                subst g13
                have h17 : L 17 = false := by
                  cases e : L 17
                  · rfl
                  · exact absurd (I1 e 14 (by decide)) (by rw [hL]; simp)
                obtain ⟨rd, gb⟩ := I0 h17
                refine wpOp_step rfl (fun K' hK => ?_)
                go_simp
                refine (pick_any gr _ mr ww rd (by have := Bool.toNat_le (L 14); omega) (by omega)).mono ?_
                rintro e w' ⟨r, rfl, r0', r1', hr, G⟩
                obtain ⟨j, rfl⟩ := Int.eq_ofNat_of_zero_le r0'
                refine hK _ _ ?_
                exact ⟨_, _, _, _, _, _, _, _, _, _, _, _, _, _, _, _, _, rfl, (fun _ => ⟨by rw [upd_self]; rw [hL] at hr; exact hr.more (by simp), World.grownBy.trans gb G⟩), (upd_all I1 (by decide)), (kp f0), (kp f1), (kp f2), (kp f3), (kp f4), (kp f5), (kp f6), (kp f7), (kp f8), (kp f9), (kp f10), (kp f11), (kp f12), (kp f13), (fun _ => ⟨j, rfl, by omega⟩), (kp f15), (kp f16), (fun h => absurd (upd_ne h (by decide)) (by rw [h17]; simp))⟩
              · obtain rfl := Option.some.inj ho
                have h17 : L 17 = false := by
                  cases e : L 17
                  · rfl
                  · exact absurd (I1 e 15 (by decide)) (by rw [hL]; simp)
                obtain ⟨rd, gb⟩ := I0 h17
                refine wpOp_step rfl (fun K' hK => ?_)
                go_simp
                refine hK _ _ ?_
                exact ⟨_, _, _, _, _, _, _, _, _, _, _, _, _, _, _, _, _, rfl, (fun _ => ⟨by rw [upd_other (by decide)]; exact rd, gb⟩), (upd_all I1 (by decide)), (kp f0), (kp f1), (kp f2), (kp f3), (kp f4), (kp f5), (kp f6), (kp f7), (kp f8), (kp f9), (kp f10), (kp f11), (kp f12), (kp f13), (kp f14), (fun _ => by first | rfl | simp), (kp f16), (fun h => absurd (upd_ne h (by decide)) (by rw [h17]; simp))⟩
              · obtain rfl := Option.some.inj ho
                have g5 := f5 (hd ⟨5, .data⟩ (by simp) rfl)
                have g14 := f14 (hd ⟨14, .data⟩ (by simp) rfl)
                subst g5
                have h17 : L 17 = false := by
                  cases e : L 17
                  · rfl
                  · exact absurd (I1 e 16 (by decide)) (by rw [hL]; simp)
                obtain ⟨rd, gb⟩ := I0 h17
                obtain ⟨j, rfl, hj⟩ := g14
                have hj' : (j : Int) < mr := by omega
                refine wpOp_step rfl (fun K' hK => ?_)
                go_simp
                refine hK _ _ ?_
                exact ⟨_, _, _, _, _, _, _, _, _, _, _, _, _, _, _, _, _, rfl, (fun _ => ⟨by rw [upd_other (by decide)]; exact rd, gb⟩), (upd_all I1 (by decide)), (kp f0), (kp f1), (kp f2), (kp f3), (kp f4), (kp f5), (kp f6), (kp f7), (kp f8), (kp f9), (kp f10), (kp f11), (kp f12), (kp f13), (fun _ => ⟨j, rfl, hj⟩), (kp f15), (fun _ => ⟨j, by simp, hj⟩), (fun h => absurd (upd_ne h (by decide)) (by rw [h17]; simp))⟩
              · obtain rfl := Option.some.inj ho
                have g15 := f15 (hd ⟨15, .data⟩ (by simp) rfl)
                have g16 := f16 (hd ⟨16, .data⟩ (by simp) rfl)
                subst g15
                have h17 := hL
                obtain ⟨rd, gb⟩ := I0 h17
                obtain ⟨j, rfl, hj⟩ := g16
                have h14 := hd ⟨14, .chain⟩ (by simp) rfl
                have SP := SR.out.pick rd gb
                have hov := SP.own.refs ka ca _ HA.out HR.out
                obtain ⟨xo, hxo, cr⟩ := hov.cell_at (j := j) hj
                have fz : ww.frozen? ⟨gv, j, none⟩ = false := hov.frozen HL.out j
                clear SP hov hxo
                refine wpOp_step rfl (fun K' hK => ?_)
                go_simp
                refine hK _ _ ?_
                exact ⟨_, _, _, _, _, _, _, _, _, _, _, _, _, _, _, _, _, rfl, (fun h => absurd h (by rw [upd_self]; simp)), (fun _ q hq => upd_mono (by
                  have hq17 : q = 0 ∨ q = 1 ∨ q = 2 ∨ q = 3 ∨ q = 4 ∨ q = 5 ∨ q = 6 ∨ q = 7 ∨ q = 8 ∨ q = 9 ∨ q = 10 ∨ q = 11 ∨ q = 12 ∨ q = 13 ∨ q = 14 ∨ q = 15 ∨ q = 16 := by omega
                  rcases hq17 with rfl | rfl | rfl | rfl | rfl | rfl | rfl | rfl | rfl | rfl | rfl | rfl | rfl | rfl | rfl | rfl | rfl
                  · exact hd ⟨0, .phase⟩ (by simp) rfl
                  · exact hd ⟨1, .phase⟩ (by simp) rfl
                  · exact hd ⟨2, .phase⟩ (by simp) rfl
                  · exact hd ⟨3, .phase⟩ (by simp) rfl
                  · exact hd ⟨4, .phase⟩ (by simp) rfl
                  · exact hd ⟨5, .phase⟩ (by simp) rfl
                  · exact hd ⟨6, .phase⟩ (by simp) rfl
                  · exact hd ⟨7, .phase⟩ (by simp) rfl
                  · exact hd ⟨8, .phase⟩ (by simp) rfl
                  · exact hd ⟨9, .phase⟩ (by simp) rfl
                  · exact hd ⟨10, .phase⟩ (by simp) rfl
                  · exact hd ⟨11, .phase⟩ (by simp) rfl
                  · exact hd ⟨12, .phase⟩ (by simp) rfl
                  · exact hd ⟨13, .phase⟩ (by simp) rfl
                  · exact hd ⟨14, .phase⟩ (by simp) rfl
                  · exact hd ⟨15, .data⟩ (by simp) rfl
                  · exact hd ⟨16, .data⟩ (by simp) rfl)), (kp f0), (kp f1), (kp f2), (kp f3), (kp f4), (kp f5), (kp f6), (kp f7), (kp f8), (kp f9), (kp f10), (kp f11), (kp f12), (kp f13), (kp f14), (kp f15), (fun _ => ⟨j, rfl, hj⟩), (fun _ => ⟨j, ww, hj, rfl, rd.more (by rw [h14]; simp), gb⟩)⟩
            case hdone =>
              rintro L ac ww hall ⟨t66, t67, t68, t69, t70, t71, t72, t73, t74, t75, t76, t77, t78, t79, t80, t81, t82, rfl, I0, I1, f0, f1, f2, f3, f4, f5, f6, f7, f8, f9, f10, f11, f12, f13, f14, f15, f16, f17⟩
              have e0 := f0 (hall 0 (by decide))
              have e1 := f1 (hall 1 (by decide))
              have e2 := f2 (hall 2 (by decide))
              have e3 := f3 (hall 3 (by decide))
              have e4 := f4 (hall 4 (by decide))
              have e5 := f5 (hall 5 (by decide))
              have e6 := f6 (hall 6 (by decide))
              have e7 := f7 (hall 7 (by decide))
              have e8 := f8 (hall 8 (by decide))
              have e9 := f9 (hall 9 (by decide))
              have e10 := f10 (hall 10 (by decide))
              have e11 := f11 (hall 11 (by decide))
              have e12 := f12 (hall 12 (by decide))
              have e13 := f13 (hall 13 (by decide))
              have e14 := f14 (hall 14 (by decide))
              have e15 := f15 (hall 15 (by decide))
              have e16 := f16 (hall 16 (by decide))
              have e17 := f17 (hall 17 (by decide))
              clear f0 f1 f2 f3 f4 f5 f6 f7 f8 f9 f10 f11 f12 f13 f14 f15 f16 f17
              obtain ⟨j, w1, hj, rfl, rd1, gb1⟩ := e17
              have S7 := SR.out.pick rd1 gb1
              have S8 := (S7.ref1 (i := j) HA.out HR.out HL.out (kt : Int)).more (N' := N + 602 + 3 * (5 - (k - 1))) (by omega)
              have HV8 := Lib.hid (Hps.mutate_valid (j := j) HV.out HA.out HUA.out HT.out HUT.out)
              have HN8 := Lib.hid (show (h1.cs.set ka ⟨ca.u, ca.d, ca.r.set j (kt : Int)⟩).length = nn by rw [List.length_set]; exact HN.out)
              have SH := Lib.hid S8
              clear e0 e1 e2 e3 e4 e5 e6 e7 e8 e9 e10 e11 e12 e13 e14 e15 e16 I0 I1 S7 S8 rd1 gb1 SR x0 x1 d0 d0' d2
              go_wp2_with fail
              go_roundw
              case rel => exact ⟨k - 1, _, nn, c1, R1, d1, rvs1, ⟨h1.cs.set ka ⟨ca.u, ca.d, ca.r.set j (kt : Int)⟩, h1.rt⟩, by omega, int_eq (by omega), hn40, HN8, HM, HV8, SH.out⟩
              case measure => simp [intOf]; omega
          · obtain rfl : nn = 0 := by omega
            have hk1 : decide ((0 : Int) < k) = true := decide_eq_true hk0'
            have SE := S.more (N' := N + 617) (by omega)
            clear S
            go_wp2_with fail
            go_meet
            case rel => exact ⟨A1, _, c1, R1, d1, rvs1, h1, hn40, HN, HM, HV, SE⟩
        · obtain rfl : k = 0 := by omega
          have SE := S.more (N' := N + 617) (by omega)
          clear S
          go_wp2_with fail
          go_meet
          case rel => exact ⟨A1, _, c1, R1, d1, rvs1, h1, hn40, HN, HM, HV, SE⟩
    case rest =>
      clear S HN1 HM1 HV1 hn1 cr' q h1 rvs1 A1 c1 R1 d1 n1
      obtain ⟨A1, nn, c1, R1, d1, rvs1, h1, hn40, HN, HM, HV, S⟩ := hcut
      have hlo := S.lo
      have hold := S.old
      have SM := Lib.hid (small_valid HV.out)
      by_cases hn1 : n = 0
      · subst hn1
        have RD := Lib.hid S.rd
        have r0 : (wc).cell? ⟨b, 0, none⟩ = some (.slice A1 nn c1) := S.box.cell 0
        have r1 : (wc).cell? ⟨b, 1, none⟩ = some (.slice R1 4 d1) := S.box.cell 1
        have r2 : (wc).frozen? ⟨w.heap.size, 0, none⟩ = false := S.res.frozen 0
        have r3 : (wc).frozen? ⟨w.heap.size, 1, none⟩ = false := S.res.frozen 1
        have r4 : (wc).cell? ⟨w.heap.size, 0, none⟩ = some (.slice none 0 0) := S.res.cell 0
        have r5 : (wc).cell? ⟨w.heap.size, 1, none⟩ = some (.slice none 0 0) := S.res.cell 1
        have r6 : (((wc).setCell ⟨w.heap.size, 0, none⟩ (.slice A1 nn c1)).setCell ⟨w.heap.size, 1, none⟩ (.slice R1 4 d1)).cell? ⟨w.heap.size, 0, none⟩ = some (.slice A1 nn c1) := ((S.res.put 0 (.slice A1 nn c1)).put 1 (.slice R1 4 d1)).cell 0
        have r7 : (((wc).setCell ⟨w.heap.size, 0, none⟩ (.slice A1 nn c1)).setCell ⟨w.heap.size, 1, none⟩ (.slice R1 4 d1)).cell? ⟨w.heap.size, 1, none⟩ = some (.slice R1 4 d1) := ((S.res.put 0 (.slice A1 nn c1)).put 1 (.slice R1 4 d1)).cell 1
        have FI := Lib.hid (S.fin (.slice A1 nn c1) (.slice R1 4 d1))
        have CAP := Lib.hid S.own.caps.2.2
        clear S 
        go_wp2_with fail
        refine (odd_zero' _ _ _ RD.out).mono ?_
        rintro e w' ⟨rfl, rfl⟩
        go_wp2_with fail
        exact bodyPost_ret (v := .agg #[.slice A1 nn c1, .slice R1 4 d1]) (by simp [results, Try.results37, go_sem, *]) rfl ⟨A1, nn, c1, R1, 4, d1, h1, rfl, CAP.out.1, CAP.out.2, FI.out.1, fun _ => HV.out, SM.out, FI.out.2.1.more (by omega), FI.out.2.2⟩
      have hn2 : 1 ≤ n := by omega
      go_wp2_with fail
      refine (odd_any _ _ _ _ S.rd (by omega) hn2 (by omega)).mono ?_
      rintro e w5 ⟨bb, rfl, hr5, g5⟩
      replace S := S.pick hr5 g5
      clear hr5 g5 wc
      cases bb
      · have r0 : (w5).cell? ⟨b, 0, none⟩ = some (.slice A1 nn c1) := S.box.cell 0
        have r1 : (w5).cell? ⟨b, 1, none⟩ = some (.slice R1 4 d1) := S.box.cell 1
        have r2 : (w5).frozen? ⟨w.heap.size, 0, none⟩ = false := S.res.frozen 0
        have r3 : (w5).frozen? ⟨w.heap.size, 1, none⟩ = false := S.res.frozen 1
        have r4 : (w5).cell? ⟨w.heap.size, 0, none⟩ = some (.slice none 0 0) := S.res.cell 0
        have r5 : (w5).cell? ⟨w.heap.size, 1, none⟩ = some (.slice none 0 0) := S.res.cell 1
        have r6 : (((w5).setCell ⟨w.heap.size, 0, none⟩ (.slice A1 nn c1)).setCell ⟨w.heap.size, 1, none⟩ (.slice R1 4 d1)).cell? ⟨w.heap.size, 0, none⟩ = some (.slice A1 nn c1) := ((S.res.put 0 (.slice A1 nn c1)).put 1 (.slice R1 4 d1)).cell 0
        have r7 : (((w5).setCell ⟨w.heap.size, 0, none⟩ (.slice A1 nn c1)).setCell ⟨w.heap.size, 1, none⟩ (.slice R1 4 d1)).cell? ⟨w.heap.size, 1, none⟩ = some (.slice R1 4 d1) := ((S.res.put 0 (.slice A1 nn c1)).put 1 (.slice R1 4 d1)).cell 1
        have FI := Lib.hid (S.fin (.slice A1 nn c1) (.slice R1 4 d1))
        have CAP := Lib.hid S.own.caps.2.2
        clear S 
        go_wp2_with fail
        exact bodyPost_ret (v := .agg #[.slice A1 nn c1, .slice R1 4 d1]) (by simp [results, Try.results37, go_sem, *]) rfl ⟨A1, nn, c1, R1, 4, d1, h1, rfl, CAP.out.1, CAP.out.2, FI.out.1, fun h => absurd h hn1, SM.out, FI.out.2.1.more (by omega), FI.out.2.2⟩
      go_wp2_with fail
      refine (pick_any _ _ _ _ S.rd (by omega) (by omega)).mono ?_
      rintro e w6 ⟨r6, rfl, a6, c6, hr6, g6⟩
      replace S := S.pick hr6 g6
      clear hr6 g6 w5
      obtain ⟨gR, rfl, hgR1, hgR2⟩ := S.own.rootAddr (by omega)
      have hcases : r6 = 0 ∨ r6 = 1 ∨ r6 = 2 ∨ r6 = 3 ∨ r6 = 4 := by omega
      clear a6 c6
      have x0 : w6.cell? ⟨b, 0, none⟩ = some (.slice A1 nn c1) := S.box.cell 0
      have x1 : w6.cell? ⟨b, 1, none⟩ = some (.slice (some ⟨gR, 0, none⟩) 4 d1) := S.box.cell 1
      have fb0 : w6.frozen? ⟨b, 0, none⟩ = false := S.box.frozen 0
      have fb1 : w6.frozen? ⟨b, 1, none⟩ = false := S.box.frozen 1
      have cap4 := S.own.caps.2.2.2
      rcases hcases with rfl | rfl | rfl | rfl | rfl
      · obtain ⟨own', box', res', rd', gb'⟩ := S.boxed (.slice (some ⟨gR, 1, none⟩) 3 (d1 - 1))
        have r0 : (w6.setCell ⟨b, 1, none⟩ (.slice (some ⟨gR, 1, none⟩) 3 (d1 - 1))).cell? ⟨b, 0, none⟩ = some (.slice A1 nn c1) := box'.cell 0
        have r1 : (w6.setCell ⟨b, 1, none⟩ (.slice (some ⟨gR, 1, none⟩) 3 (d1 - 1))).cell? ⟨b, 1, none⟩ = some (.slice (some ⟨gR, 1, none⟩) 3 (d1 - 1)) := box'.cell 1
        have r2 : (w6.setCell ⟨b, 1, none⟩ (.slice (some ⟨gR, 1, none⟩) 3 (d1 - 1))).frozen? ⟨w.heap.size, 0, none⟩ = false := res'.frozen 0
        have r3 : (w6.setCell ⟨b, 1, none⟩ (.slice (some ⟨gR, 1, none⟩) 3 (d1 - 1))).frozen? ⟨w.heap.size, 1, none⟩ = false := res'.frozen 1
        have r4 : (w6.setCell ⟨b, 1, none⟩ (.slice (some ⟨gR, 1, none⟩) 3 (d1 - 1))).cell? ⟨w.heap.size, 0, none⟩ = some (.slice none 0 0) := res'.cell 0
        have r5 : (w6.setCell ⟨b, 1, none⟩ (.slice (some ⟨gR, 1, none⟩) 3 (d1 - 1))).cell? ⟨w.heap.size, 1, none⟩ = some (.slice none 0 0) := res'.cell 1
        have r6 : (((w6.setCell ⟨b, 1, none⟩ (.slice (some ⟨gR, 1, none⟩) 3 (d1 - 1))).setCell ⟨w.heap.size, 0, none⟩ (.slice A1 nn c1)).setCell ⟨w.heap.size, 1, none⟩ (.slice (some ⟨gR, 1, none⟩) 3 (d1 - 1))).cell? ⟨w.heap.size, 0, none⟩ = some (.slice A1 nn c1) := ((res'.put 0 (.slice A1 nn c1)).put 1 (.slice (some ⟨gR, 1, none⟩) 3 (d1 - 1))).cell 0
        have r7 : (((w6.setCell ⟨b, 1, none⟩ (.slice (some ⟨gR, 1, none⟩) 3 (d1 - 1))).setCell ⟨w.heap.size, 0, none⟩ (.slice A1 nn c1)).setCell ⟨w.heap.size, 1, none⟩ (.slice (some ⟨gR, 1, none⟩) 3 (d1 - 1))).cell? ⟨w.heap.size, 1, none⟩ = some (.slice (some ⟨gR, 1, none⟩) 3 (d1 - 1)) := ((res'.put 0 (.slice A1 nn c1)).put 1 (.slice (some ⟨gR, 1, none⟩) 3 (d1 - 1))).cell 1
        have FI := Lib.hid (fin_cut (m := 3) hold own' rd' gb' (.slice A1 nn c1) (.slice (some ⟨gR, 1, none⟩) 3 (d1 - 1)))
        have CAP := Lib.hid (show nn ≤ c1 ∧ 3 ≤ d1 - 1 from ⟨own'.caps.2.2.1, by omega⟩)
        have SM3 := Lib.hid (SmallH.drop1 SM.out)
        have cap4' : (4 : Int) ≤ d1 := by omega
        have hd1 : ((d1 : Int) - 1).toNat = d1 - 1 := by omega
        clear S own' box' res' rd' gb'
        go_wp2_with fail
        exact bodyPost_ret (v := .agg #[.slice A1 nn c1, .slice (some ⟨gR, 1, none⟩) 3 (d1 - 1)]) (by simp [results, Try.results37, go_sem, *]) rfl ⟨A1, nn, c1, some ⟨gR, 1, none⟩, 3, d1 - 1, ⟨h1.cs, h1.rt.drop 1⟩, rfl, CAP.out.1, CAP.out.2, FI.out.1, fun h => absurd h hn1, SM3.out, FI.out.2.1.more (by omega), FI.out.2.2⟩
      · have SR := Lib.hid S
        clear S
        go_wp2_with fail
        refine wp_region_inv (by kernel_rfl) (by kernel_rfl) (fun L ac ww => ∃ t107 t108 t109 t110 t111 t112 t113 t114 t115 t116 t117 t118 t119 : Value, ac = { tmps := #[Value.pointer (some { block := gr, off := 0 }), Value.int IntKind.i64 n, undef, undef, Value.pointer (some { block := w.heap.size, off := 0 }), Value.pointer (some { block := b, off := 0 }), u6, u7, u8, u9, u10, u11, u12, u13, u14, u15, u16, u17, u18, u19, u20, u21, u22, u23, u24, u25, u26, u27, u28, u29, u30, u31, u32, u33, u34, u35, u36, u37, u38, u39, u40, u41, u42, u43, u44, u45, u46, u47, u48, u49, u50, u51, u52, u53, u54, u55, u56, u57, u58, u59, u60, u61, u62, u63, u64, u65, u66, u67, u68, u69, u70, u71, u72, u73, u74, u75, u76, u77, u78, u79, u80, u81, u82, Value.pointer (some { block := gr, off := 0 }), Value.int IntKind.i64 n, Value.bool true, Value.pointer (some { block := gr, off := 0 }), Value.int IntKind.i64 1, u88, u89, u90, u91, u92, u93, u94, u95, u96, u97, u98, Value.bool false, Value.bool false, u101, u102, u103, u104, Value.bool true, Value.bool true, t107, t108, t109, t110, t111, t112, t113, t114, t115, t116, t117, t118, t119, u120, u121, u122, u123, u124, u125, u126, u127, u128, u129, u130, u131, u132, u133, u134, u135, u136, u137, u138, u139, u140, u141], defers := [] } ∧ (L 13 = false → Rd ww gr (N + 617 + 1 + 1 + (L 3).toNat + (L 9).toNat) ∧ w6.grownBy ww (some gr)) ∧ (L 13 = true → ∀ q, q < 13 → L q = true) ∧ (L 0 = true → t107 = (.pointer (some ⟨b, 1, none⟩))) ∧ (L 1 = true → t108 = (.slice (some ⟨gR, 0, none⟩) 4 d1)) ∧ (L 2 = true → t109 = (.pointer (some ⟨gr, 0, none⟩))) ∧ (L 3 = true → ∃ j : Nat, t110 = .int .i64 j ∧ j < 4) ∧ (L 4 = true → t111 = (.pointer (some ⟨b, 0, none⟩))) ∧ (L 5 = true → t112 = (.slice A1 nn c1)) ∧ (L 6 = true → t113 = .int .i64 nn) ∧ (L 7 = true → L 13 = true ∨ TblOf ww gr 2 (-2) 40 t114) ∧ (L 8 = true → t115 = (.pointer (some ⟨gr, 0, none⟩))) ∧ (L 9 = true → IntIn 0 1 t116) ∧ (L 10 = true → L 13 = true ∨ PtrOf ww gr 2 (-2) 40 t117) ∧ (L 11 = true → IntIn (-2) 40 t118) ∧ (L 12 = true → ∃ j : Nat, t119 = .pointer (some ⟨gR, j, none⟩) ∧ j < 4) ∧ (L 13 = true → ∃ (j : Nat) (q : Int) (w1 : World), j < 4 ∧ -2 ≤ q ∧ q ≤ 40 ∧ ww = w1.setCell ⟨gR, j, none⟩ (.int .i64 q) ∧ Rd w1 gr (N + 617 + 1 + 1 + 2) ∧ w6.grownBy w1 (some gr))) ?h0 ?hstep ?hdone
        case h0 => exact ⟨_, _, _, _, _, _, _, _, _, _, _, _, _, rfl, fun _ => ⟨by simpa using SR.out.rd.below (Below.refl _ _).drew SR.out.rd.lt, grown_below (World.grownBy.refl _ _) (Below.refl _ _).drew⟩, fun h => absurd h Bool.false_ne_true, (fun h => absurd h Bool.false_ne_true), (fun h => absurd h Bool.false_ne_true), (fun h => absurd h Bool.false_ne_true), (fun h => absurd h Bool.false_ne_true), (fun h => absurd h Bool.false_ne_true), (fun h => absurd h Bool.false_ne_true), (fun h => absurd h Bool.false_ne_true), (fun h => absurd h Bool.false_ne_true), (fun h => absurd h Bool.false_ne_true), (fun h => absurd h Bool.false_ne_true), (fun h => absurd h Bool.false_ne_true), (fun h => absurd h Bool.false_ne_true), (fun h => absurd h Bool.false_ne_true), (fun h => absurd h Bool.false_ne_true)⟩
        case hstep =>
          rintro L ac ww i o ho hL hd ⟨t107, t108, t109, t110, t111, t112, t113, t114, t115, t116, t117, t118, t119, rfl, I0, I1, f0, f1, f2, f3, f4, f5, f6, f7, f8, f9, f10, f11, f12, f13⟩
          have hi : i < 14 := (Array.getElem?_eq_some_iff.1 ho).1
          obtain rfl | rfl | rfl | rfl | rfl | rfl | rfl | rfl | rfl | rfl | rfl | rfl | rfl | rfl : i = 0 ∨ i = 1 ∨ i = 2 ∨ i = 3 ∨ i = 4 ∨ i = 5 ∨ i = 6 ∨ i = 7 ∨ i = 8 ∨ i = 9 ∨ i = 10 ∨ i = 11 ∨ i = 12 ∨ i = 13 := by omega
          · obtain rfl := Option.some.inj ho
            have h17 : L 13 = false := by
              cases e : L 13
              · rfl
              · exact absurd (I1 e 0 (by decide)) (by rw [hL]; simp)
            obtain ⟨rd, gb⟩ := I0 h17
            refine wpOp_step rfl (fun K' hK => ?_)
            go_simp
            refine hK _ _ ?_
            exact ⟨_, _, _, _, _, _, _, _, _, _, _, _, _, rfl, (fun _ => ⟨by rw [upd_other (by decide), upd_other (by decide)]; exact rd, gb⟩), (upd_all I1 (by decide)), (fun _ => by first | rfl | simp), (kp f1), (kp f2), (kp f3), (kp f4), (kp f5), (kp f6), (fun h => (f7 (upd_ne h (by decide))).imp (fun e => upd_mono e) id), (kp f8), (kp f9), (fun h => (f10 (upd_ne h (by decide))).imp (fun e => upd_mono e) id), (kp f11), (kp f12), (fun h => absurd (upd_ne h (by decide)) (by rw [h17]; simp))⟩
          · obtain rfl := Option.some.inj ho
            have g0 := f0 (hd ⟨0, .data⟩ (by simp) rfl)
            subst g0
            have h17 : L 13 = false := by
              cases e : L 13
              · rfl
              · exact absurd (I1 e 1 (by decide)) (by rw [hL]; simp)
            obtain ⟨rd, gb⟩ := I0 h17
            have y0 : ww.cell? ⟨b, 1, none⟩ = some (.slice (some ⟨gR, 0, none⟩) 4 d1) := gb.cell x1 (fun e => by injection e with e; simp only at e; omega)
            refine wpOp_step rfl (fun K' hK => ?_)
            go_simp
            refine hK _ _ ?_
            exact ⟨_, _, _, _, _, _, _, _, _, _, _, _, _, rfl, (fun _ => ⟨by rw [upd_other (by decide), upd_other (by decide)]; exact rd, gb⟩), (upd_all I1 (by decide)), (kp f0), (fun _ => by first | rfl | simp), (kp f2), (kp f3), (kp f4), (kp f5), (kp f6), (fun h => (f7 (upd_ne h (by decide))).imp (fun e => upd_mono e) id), (kp f8), (kp f9), (fun h => (f10 (upd_ne h (by decide))).imp (fun e => upd_mono e) id), (kp f11), (kp f12), (fun h => absurd (upd_ne h (by decide)) (by rw [h17]; simp))⟩
          · obtain rfl := Option.some.inj ho
            have h17 : L 13 = false := by
              cases e : L 13
              · rfl
              · exact absurd (I1 e 2 (by decide)) (by rw [hL]; simp)
            obtain ⟨rd, gb⟩ := I0 h17
            refine wpOp_step rfl (fun K' hK => ?_)
            go_simp
            refine hK _ _ ?_
            exact ⟨_, _, _, _, _, _, _, _, _, _, _, _, _, rfl, (fun _ => ⟨by rw [upd_other (by decide), upd_other (by decide)]; exact rd, gb⟩), (upd_all I1 (by decide)), (kp f0), (kp f1), (fun _ => by first | rfl | simp), (kp f3), (kp f4), (kp f5), (kp f6), (fun h => (f7 (upd_ne h (by decide))).imp (fun e => upd_mono e) id), (kp f8), (kp f9), (fun h => (f10 (upd_ne h (by decide))).imp (fun e => upd_mono e) id), (kp f11), (kp f12), (fun h => absurd (upd_ne h (by decide)) (by rw [h17]; simp))⟩
          · obtain rfl := Option.some.inj ho
            have g2 := f2 (hd ⟨2, .data⟩ (by simp) rfl)
            subst g2
            have h17 : L 13 = false := by
              cases e : L 13
              · rfl
              · exact absurd (I1 e 3 (by decide)) (by rw [hL]; simp)
            obtain ⟨rd, gb⟩ := I0 h17
            refine wpOp_step rfl (fun K' hK => ?_)
            go_simp
            refine (pick_any gr _ 4 ww rd (by have := Bool.toNat_le (L 3); have := Bool.toNat_le (L 9); omega) (by omega)).mono ?_
            rintro e w' ⟨r, rfl, r0', r1', hr, G⟩
            refine hK _ _ ?_
            exact ⟨_, _, _, _, _, _, _, _, _, _, _, _, _, rfl, (fun _ => ⟨by rw [upd_self, upd_other (by decide)]; rw [hL] at hr; exact hr.more (by simp; omega), World.grownBy.trans gb G⟩), (upd_all I1 (by decide)), (kp f0), (kp f1), (kp f2), (fun _ => ⟨r.toNat, by rw [Int.toNat_of_nonneg r0'], by omega⟩), (kp f4), (kp f5), (kp f6), (fun h => (f7 (upd_ne h (by decide))).imp (fun e => upd_mono e) (fun T => T.pick G)), (kp f8), (kp f9), (fun h => (f10 (upd_ne h (by decide))).imp (fun e => upd_mono e) (fun T => T.pick G)), (kp f11), (kp f12), (fun h => absurd (upd_ne h (by decide)) (by rw [h17]; simp))⟩
          · obtain rfl := Option.some.inj ho
            have h17 : L 13 = false := by
              cases e : L 13
              · rfl
              · exact absurd (I1 e 4 (by decide)) (by rw [hL]; simp)
            obtain ⟨rd, gb⟩ := I0 h17
            refine wpOp_step rfl (fun K' hK => ?_)
            go_simp
            refine hK _ _ ?_
            exact ⟨_, _, _, _, _, _, _, _, _, _, _, _, _, rfl, (fun _ => ⟨by rw [upd_other (by decide), upd_other (by decide)]; exact rd, gb⟩), (upd_all I1 (by decide)), (kp f0), (kp f1), (kp f2), (kp f3), (fun _ => by first | rfl | simp), (kp f5), (kp f6), (fun h => (f7 (upd_ne h (by decide))).imp (fun e => upd_mono e) id), (kp f8), (kp f9), (fun h => (f10 (upd_ne h (by decide))).imp (fun e => upd_mono e) id), (kp f11), (kp f12), (fun h => absurd (upd_ne h (by decide)) (by rw [h17]; simp))⟩
          · obtain rfl := Option.some.inj ho
            have g4 := f4 (hd ⟨4, .data⟩ (by simp) rfl)
            subst g4
            have h17 : L 13 = false := by
              cases e : L 13
              · rfl
              · exact absurd (I1 e 5 (by decide)) (by rw [hL]; simp)
            obtain ⟨rd, gb⟩ := I0 h17
            have y0 : ww.cell? ⟨b, 0, none⟩ = some (.slice A1 nn c1) := gb.cell x0 (fun e => by injection e with e; simp only at e; omega)
            refine wpOp_step rfl (fun K' hK => ?_)
            go_simp
            refine hK _ _ ?_
            exact ⟨_, _, _, _, _, _, _, _, _, _, _, _, _, rfl, (fun _ => ⟨by rw [upd_other (by decide), upd_other (by decide)]; exact rd, gb⟩), (upd_all I1 (by decide)), (kp f0), (kp f1), (kp f2), (kp f3), (kp f4), (fun _ => by first | rfl | simp), (kp f6), (fun h => (f7 (upd_ne h (by decide))).imp (fun e => upd_mono e) id), (kp f8), (kp f9), (fun h => (f10 (upd_ne h (by decide))).imp (fun e => upd_mono e) id), (kp f11), (kp f12), (fun h => absurd (upd_ne h (by decide)) (by rw [h17]; simp))⟩
          · obtain rfl := Option.some.inj ho
            have g5 := f5 (hd ⟨5, .data⟩ (by simp) rfl)
            subst g5
            have h17 : L 13 = false := by
              cases e : L 13
              · rfl
              · exact absurd (I1 e 6 (by decide)) (by rw [hL]; simp)
            obtain ⟨rd, gb⟩ := I0 h17
            refine wpOp_step rfl (fun K' hK => ?_)
            go_simp
            refine hK _ _ ?_
            exact ⟨_, _, _, _, _, _, _, _, _, _, _, _, _, rfl, (fun _ => ⟨by rw [upd_other (by decide), upd_other (by decide)]; exact rd, gb⟩), (upd_all I1 (by decide)), (kp f0), (kp f1), (kp f2), (kp f3), (kp f4), (kp f5), (fun _ => by first | rfl | simp), (fun h => (f7 (upd_ne h (by decide))).imp (fun e => upd_mono e) id), (kp f8), (kp f9), (fun h => (f10 (upd_ne h (by decide))).imp (fun e => upd_mono e) id), (kp f11), (kp f12), (fun h => absurd (upd_ne h (by decide)) (by rw [h17]; simp))⟩
          · obtain rfl := Option.some.inj ho
            have g6 := f6 (hd ⟨6, .data⟩ (by simp) rfl)
            subst g6
            have h17 : L 13 = false := by
              cases e : L 13
              · rfl
              · exact absurd (I1 e 7 (by decide)) (by rw [hL]; simp)
            obtain ⟨rd, gb⟩ := I0 h17
            refine wpOp_step rfl (fun K' hK => ?_)
            go_simp
            refine hK _ _ ?_
            exact ⟨_, _, _, _, _, _, _, _, _, _, _, _, _, rfl, (fun _ => ⟨by rw [upd_other (by decide), upd_other (by decide)]; exact rd.below ((Below.refl ww.heap.size ww).alloc (Nat.le_refl _) _) rd.lt, World.grownBy.trans gb (World.grownBy_alloc _ _ _)⟩), (upd_all I1 (by decide)), (kp f0), (kp f1), (kp f2), (kp f3), (kp f4), (kp f5), (kp f6), (fun _ => .inr ⟨_, rfl, Tbl.new ww gr _ [-2, (nn : Int)] (-2) 40 rd.lt (by intro q hq; simp at hq; omega) _ rfl⟩), (kp f8), (kp f9), (fun h => (f10 (upd_ne h (by decide))).imp (fun e => upd_mono e) (fun T => T.alloc _)), (kp f11), (kp f12), (fun h => absurd (upd_ne h (by decide)) (by rw [h17]; simp))⟩
          · obtain rfl := Option.some.inj ho
            have h17 : L 13 = false := by
              cases e : L 13
              · rfl
              · exact absurd (I1 e 8 (by decide)) (by rw [hL]; simp)
            obtain ⟨rd, gb⟩ := I0 h17
            refine wpOp_step rfl (fun K' hK => ?_)
            go_simp
            refine hK _ _ ?_
            exact ⟨_, _, _, _, _, _, _, _, _, _, _, _, _, rfl, (fun _ => ⟨by rw [upd_other (by decide), upd_other (by decide)]; exact rd, gb⟩), (upd_all I1 (by decide)), (kp f0), (kp f1), (kp f2), (kp f3), (kp f4), (kp f5), (kp f6), (fun h => (f7 (upd_ne h (by decide))).imp (fun e => upd_mono e) id), (fun _ => by first | rfl | simp), (kp f9), (fun h => (f10 (upd_ne h (by decide))).imp (fun e => upd_mono e) id), (kp f11), (kp f12), (fun h => absurd (upd_ne h (by decide)) (by rw [h17]; simp))⟩
          · obtain rfl := Option.some.inj ho
            have g8 := f8 (hd ⟨8, .data⟩ (by simp) rfl)
            subst g8
            have h17 : L 13 = false := by
              cases e : L 13
              · rfl
              · exact absurd (I1 e 9 (by decide)) (by rw [hL]; simp)
            obtain ⟨rd, gb⟩ := I0 h17
            refine wpOp_step rfl (fun K' hK => ?_)
            go_simp
            refine (pick_any gr _ 2 ww rd (by have := Bool.toNat_le (L 3); have := Bool.toNat_le (L 9); omega) (by omega)).mono ?_
            rintro e w' ⟨r, rfl, r0', r1', hr, G⟩
            refine hK _ _ ?_
            exact ⟨_, _, _, _, _, _, _, _, _, _, _, _, _, rfl, (fun _ => ⟨by rw [upd_self, upd_other (by decide)]; rw [hL] at hr; exact hr.more (by simp), World.grownBy.trans gb G⟩), (upd_all I1 (by decide)), (kp f0), (kp f1), (kp f2), (kp f3), (kp f4), (kp f5), (kp f6), (fun h => (f7 (upd_ne h (by decide))).imp (fun e => upd_mono e) (fun T => T.pick G)), (kp f8), (fun _ => ⟨r, rfl, r0', by omega⟩), (fun h => (f10 (upd_ne h (by decide))).imp (fun e => upd_mono e) (fun T => T.pick G)), (kp f11), (kp f12), (fun h => absurd (upd_ne h (by decide)) (by rw [h17]; simp))⟩
          · obtain rfl := Option.some.inj ho
            have g7 := f7 (hd ⟨7, .data⟩ (by simp) rfl)
            have g9 := f9 (hd ⟨9, .data⟩ (by simp) rfl)
            have h17 : L 13 = false := by
              cases e : L 13
              · rfl
              · exact absurd (I1 e 10 (by decide)) (by rw [hL]; simp)
            obtain ⟨rd, gb⟩ := I0 h17
            obtain ⟨gt, rfl, T7⟩ := g7.resolve_left (by rw [h17]; simp)
            obtain ⟨q8, rfl, q81, q82⟩ := g9
            obtain ⟨n8, rfl⟩ := Int.eq_ofNat_of_zero_le (show 0 ≤ q8 by omega)
            have l8 : n8 < 2 := by omega
            have l8' : (n8 : Int) < 2 := by omega
            refine wpOp_step rfl (fun K' hK => ?_)
            go_simp
            refine hK _ _ ?_
            exact ⟨_, _, _, _, _, _, _, _, _, _, _, _, _, rfl, (fun _ => ⟨by rw [upd_other (by decide), upd_other (by decide)]; exact rd, gb⟩), (upd_all I1 (by decide)), (kp f0), (kp f1), (kp f2), (kp f3), (kp f4), (kp f5), (kp f6), (fun _ => .inr ⟨gt, rfl, T7⟩), (kp f8), (fun _ => ⟨(n8 : Int), rfl, by omega, by omega⟩), (fun _ => .inr ⟨gt, n8, by simp, l8, T7⟩), (kp f11), (kp f12), (fun h => absurd (upd_ne h (by decide)) (by rw [h17]; simp))⟩
          · obtain rfl := Option.some.inj ho
            have g10 := f10 (hd ⟨10, .data⟩ (by simp) rfl)
            have h17 : L 13 = false := by
              cases e : L 13
              · rfl
              · exact absurd (I1 e 11 (by decide)) (by rw [hL]; simp)
            obtain ⟨rd, gb⟩ := I0 h17
            obtain ⟨gt, n9, rfl, l9, T9⟩ := g10.resolve_left (by rw [h17]; simp)
            obtain ⟨q9, hq9, q91, q92⟩ := T9.2.2 n9 l9
            refine wpOp_step rfl (fun K' hK => ?_)
            go_simp
            refine hK _ _ ?_
            exact ⟨_, _, _, _, _, _, _, _, _, _, _, _, _, rfl, (fun _ => ⟨by rw [upd_other (by decide), upd_other (by decide)]; exact rd, gb⟩), (upd_all I1 (by decide)), (kp f0), (kp f1), (kp f2), (kp f3), (kp f4), (kp f5), (kp f6), (fun h => (f7 (upd_ne h (by decide))).imp (fun e => upd_mono e) id), (kp f8), (kp f9), (fun _ => .inr ⟨gt, n9, rfl, l9, T9⟩), (fun _ => ⟨q9, rfl, q91, q92⟩), (kp f12), (fun h => absurd (upd_ne h (by decide)) (by rw [h17]; simp))⟩
          · obtain rfl := Option.some.inj ho
            have g1 := f1 (hd ⟨1, .data⟩ (by simp) rfl)
            have g3 := f3 (hd ⟨3, .data⟩ (by simp) rfl)
            subst g1
            have h17 : L 13 = false := by
              cases e : L 13
              · rfl
              · exact absurd (I1 e 12 (by decide)) (by rw [hL]; simp)
            obtain ⟨rd, gb⟩ := I0 h17
            obtain ⟨j, rfl, hj⟩ := g3
            have hj' : (j : Int) < 4 := by omega
            refine wpOp_step rfl (fun K' hK => ?_)
            go_simp
            refine hK _ _ ?_
            exact ⟨_, _, _, _, _, _, _, _, _, _, _, _, _, rfl, (fun _ => ⟨by rw [upd_other (by decide), upd_other (by decide)]; exact rd, gb⟩), (upd_all I1 (by decide)), (kp f0), (kp f1), (kp f2), (fun _ => ⟨j, rfl, hj⟩), (kp f4), (kp f5), (kp f6), (fun h => (f7 (upd_ne h (by decide))).imp (fun e => upd_mono e) id), (kp f8), (kp f9), (fun h => (f10 (upd_ne h (by decide))).imp (fun e => upd_mono e) id), (kp f11), (fun _ => ⟨j, by simp, hj⟩), (fun h => absurd (upd_ne h (by decide)) (by rw [h17]; simp))⟩
          · obtain rfl := Option.some.inj ho
            have g11 := f11 (hd ⟨11, .data⟩ (by simp) rfl)
            have g12 := f12 (hd ⟨12, .data⟩ (by simp) rfl)
            obtain ⟨rd, gb⟩ := I0 hL
            obtain ⟨j, rfl, hj⟩ := g12
            obtain ⟨q, rfl, q1, q2⟩ := g11
            have h3 := hd ⟨3, .phase⟩ (by simp) rfl
            have h9 := hd ⟨9, .chain⟩ (by simp) rfl
            have SP := SR.out.pick rd gb
            obtain ⟨xo, hxo, cr⟩ := SP.own.roots.cell_at (j := j) hj
            have fz : ww.frozen? ⟨gR, j, none⟩ = false := SP.own.roots.frozen HM.out j
            clear SP hxo
            refine wpOp_step rfl (fun K' hK => ?_)
            go_simp
            refine hK _ _ ?_
            exact ⟨_, _, _, _, _, _, _, _, _, _, _, _, _, rfl, (fun h => absurd h (by rw [upd_self]; simp)), (fun _ q hq => upd_mono (by
              have hq17 : q = 0 ∨ q = 1 ∨ q = 2 ∨ q = 3 ∨ q = 4 ∨ q = 5 ∨ q = 6 ∨ q = 7 ∨ q = 8 ∨ q = 9 ∨ q = 10 ∨ q = 11 ∨ q = 12 := by omega
              rcases hq17 with rfl | rfl | rfl | rfl | rfl | rfl | rfl | rfl | rfl | rfl | rfl | rfl | rfl
              · exact hd ⟨0, .phase⟩ (by simp) rfl
              · exact hd ⟨1, .phase⟩ (by simp) rfl
              · exact hd ⟨2, .phase⟩ (by simp) rfl
              · exact hd ⟨3, .phase⟩ (by simp) rfl
              · exact hd ⟨4, .phase⟩ (by simp) rfl
              · exact hd ⟨5, .phase⟩ (by simp) rfl
              · exact hd ⟨6, .phase⟩ (by simp) rfl
              · exact hd ⟨7, .phase⟩ (by simp) rfl
              · exact hd ⟨8, .phase⟩ (by simp) rfl
              · exact hd ⟨9, .phase⟩ (by simp) rfl
              · exact hd ⟨10, .phase⟩ (by simp) rfl
              · exact hd ⟨11, .data⟩ (by simp) rfl
              · exact hd ⟨12, .data⟩ (by simp) rfl)), (kp f0), (kp f1), (kp f2), (kp f3), (kp f4), (kp f5), (kp f6), (fun _ => .inl upd_self), (kp f8), (kp f9), (fun _ => .inl upd_self), (fun _ => ⟨q, rfl, q1, q2⟩), (fun _ => ⟨j, rfl, hj⟩), (fun _ => ⟨j, q, ww, hj, q1, q2, rfl, rd.more (by rw [h3, h9]; simp), gb⟩)⟩
        case hdone =>
          rintro L ac ww hall ⟨t107, t108, t109, t110, t111, t112, t113, t114, t115, t116, t117, t118, t119, rfl, I0, I1, f0, f1, f2, f3, f4, f5, f6, f7, f8, f9, f10, f11, f12, f13⟩
          have e0 := f0 (hall 0 (by decide))
          have e1 := f1 (hall 1 (by decide))
          have e2 := f2 (hall 2 (by decide))
          have e3 := f3 (hall 3 (by decide))
          have e4 := f4 (hall 4 (by decide))
          have e5 := f5 (hall 5 (by decide))
          have e6 := f6 (hall 6 (by decide))
          have e7 := f7 (hall 7 (by decide))
          have e8 := f8 (hall 8 (by decide))
          have e9 := f9 (hall 9 (by decide))
          have e10 := f10 (hall 10 (by decide))
          have e11 := f11 (hall 11 (by decide))
          have e12 := f12 (hall 12 (by decide))
          have e13 := f13 (hall 13 (by decide))
          clear f0 f1 f2 f3 f4 f5 f6 f7 f8 f9 f10 f11 f12 f13
          obtain ⟨j, q, w1, hj, q1, q2, rfl, rd1, gb1⟩ := e13
          have S := (SR.out.pick rd1 gb1).root (i := j) HM.out q
          have SM3 := Lib.hid (SM.out.setRoot (i := j) (x := q) (by omega))
          have r0 : (w1.setCell ⟨gR, j, none⟩ (.int .i64 q)).cell? ⟨b, 0, none⟩ = some (.slice A1 nn c1) := S.box.cell 0
          have r1 : (w1.setCell ⟨gR, j, none⟩ (.int .i64 q)).cell? ⟨b, 1, none⟩ = some (.slice (some ⟨gR, 0, none⟩) 4 d1) := S.box.cell 1
          have r2 : (w1.setCell ⟨gR, j, none⟩ (.int .i64 q)).frozen? ⟨w.heap.size, 0, none⟩ = false := S.res.frozen 0
          have r3 : (w1.setCell ⟨gR, j, none⟩ (.int .i64 q)).frozen? ⟨w.heap.size, 1, none⟩ = false := S.res.frozen 1
          have r4 : (w1.setCell ⟨gR, j, none⟩ (.int .i64 q)).cell? ⟨w.heap.size, 0, none⟩ = some (.slice none 0 0) := S.res.cell 0
          have r5 : (w1.setCell ⟨gR, j, none⟩ (.int .i64 q)).cell? ⟨w.heap.size, 1, none⟩ = some (.slice none 0 0) := S.res.cell 1
          have r6 : (((w1.setCell ⟨gR, j, none⟩ (.int .i64 q)).setCell ⟨w.heap.size, 0, none⟩ (.slice A1 nn c1)).setCell ⟨w.heap.size, 1, none⟩ (.slice (some ⟨gR, 0, none⟩) 4 d1)).cell? ⟨w.heap.size, 0, none⟩ = some (.slice A1 nn c1) := ((S.res.put 0 (.slice A1 nn c1)).put 1 (.slice (some ⟨gR, 0, none⟩) 4 d1)).cell 0
          have r7 : (((w1.setCell ⟨gR, j, none⟩ (.int .i64 q)).setCell ⟨w.heap.size, 0, none⟩ (.slice A1 nn c1)).setCell ⟨w.heap.size, 1, none⟩ (.slice (some ⟨gR, 0, none⟩) 4 d1)).cell? ⟨w.heap.size, 1, none⟩ = some (.slice (some ⟨gR, 0, none⟩) 4 d1) := ((S.res.put 0 (.slice A1 nn c1)).put 1 (.slice (some ⟨gR, 0, none⟩) 4 d1)).cell 1
          have FI := Lib.hid (S.fin (.slice A1 nn c1) (.slice (some ⟨gR, 0, none⟩) 4 d1))
          have CAP := Lib.hid S.own.caps.2.2
          clear S SR e0 e1 e2 e3 e4 e5 e6 e7 e8 e9 e10 e11 e12 I0 I1 x0 x1 fb0 fb1
          go_wp2_with fail
          exact bodyPost_ret (v := .agg #[.slice A1 nn c1, .slice (some ⟨gR, 0, none⟩) 4 d1]) (by simp [results, Try.results37, go_sem, *]) rfl ⟨A1, nn, c1, some ⟨gR, 0, none⟩, 4, d1, ⟨h1.cs, h1.rt.set j q⟩, rfl, CAP.out.1, CAP.out.2, FI.out.1, fun h => absurd h hn1, SM3.out, FI.out.2.1.more (by omega), FI.out.2.2⟩
      · have own' := World.ownsRow.alloc S.own.row (.cells #[.bool false, .int .i64 5, .slice none 0 0] 45)
        rw [HN.out] at own'
        have rr := Rw.new w6 45 #[.bool false, .int .i64 5, .slice none 0 0]
        have SB := S.alloc (.cells #[.bool false, .int .i64 5, .slice none 0 0] 45)
        have hsz1 : w.heap.size + 1 ≤ w6.heap.size := by have := S.box.lt; omega
        have GO := Lib.hid (fun v9 w9 (g9 : (w6.alloc (.cells #[.bool false, .int .i64 5, .slice none 0 0] 45)).grownBy w9 (Value.slice A1 nn c1).ownBlock) o9 s9 => SB.snoc (cl := ⟨false, 5, []⟩) (v9 := v9) (v8 := .slice none 0 0) (w1 := w9) g9 (by rw [HN.out]; exact o9) s9 (World.ownsRow_nil _ _ _ _))
        have FB := Lib.hid (fun w9 (g9 : (w6.alloc (.cells #[.bool false, .int .i64 5, .slice none 0 0] 45)).grownBy w9 (Value.slice A1 nn c1).ownBlock) => Rw.far SB.box g9 (fun e => by
          rcases SB.apart _ (List.mem_cons_self) with e' | e'
          · rw [e'] at e; cases e
          · exact e' e.symm))
        clear S SB
        go_upto_region 22 with (at_builtin; go_must (refine wpList_appendC rfl (.tmp 123) (.tmp 125) rfl (w.heap.size + 1) _ nn (flatC h1.cs rvs1) rfl own' (w6.heap.size) false 5 none 0 0 rfl rr (by omega) (by simp; omega) ?_; intro v9 w9 A9 c9 e9 o9 g9 s9; subst e9; have SN := GO.out _ w9 g9 o9 s9 (fun _ _ => .inl rfl) (by simp [Value.ownBlock]); have z9 := (FB.out w9 g9).cell 0; have f9 := (FB.out w9 g9).frozen 0; clear o9 g9 s9))
        generalize w9.setCell ⟨b, 0, none⟩ (.slice A9 (nn + 1) c9) = w10 at SN ⊢
        clear z9 f9 GO FB own' rr x0 x1 fb0 fb1
        have hdv : SmallH ⟨h1.cs ++ [⟨false, 5, []⟩], h1.rt⟩ := SM.out.snoc (by rw [HN.out]; exact hn40) (by simp) (by show -1 ≤ (5 : Int) ∧ (5 : Int) ≤ 100; omega) (fun x hx => by simp at hx)
        have r0 : (w10).cell? ⟨b, 0, none⟩ = some (.slice A9 (nn + 1) c9) := SN.box.cell 0
        have r1 : (w10).cell? ⟨b, 1, none⟩ = some (.slice (some ⟨gR, 0, none⟩) 4 d1) := SN.box.cell 1
        have r2 : (w10).frozen? ⟨w.heap.size, 0, none⟩ = false := SN.res.frozen 0
        have r3 : (w10).frozen? ⟨w.heap.size, 1, none⟩ = false := SN.res.frozen 1
        have r4 : (w10).cell? ⟨w.heap.size, 0, none⟩ = some (.slice none 0 0) := SN.res.cell 0
        have r5 : (w10).cell? ⟨w.heap.size, 1, none⟩ = some (.slice none 0 0) := SN.res.cell 1
        have r6 : (((w10).setCell ⟨w.heap.size, 0, none⟩ (.slice A9 (nn + 1) c9)).setCell ⟨w.heap.size, 1, none⟩ (.slice (some ⟨gR, 0, none⟩) 4 d1)).cell? ⟨w.heap.size, 0, none⟩ = some (.slice A9 (nn + 1) c9) := ((SN.res.put 0 (.slice A9 (nn + 1) c9)).put 1 (.slice (some ⟨gR, 0, none⟩) 4 d1)).cell 0
        have r7 : (((w10).setCell ⟨w.heap.size, 0, none⟩ (.slice A9 (nn + 1) c9)).setCell ⟨w.heap.size, 1, none⟩ (.slice (some ⟨gR, 0, none⟩) 4 d1)).cell? ⟨w.heap.size, 1, none⟩ = some (.slice (some ⟨gR, 0, none⟩) 4 d1) := ((SN.res.put 0 (.slice A9 (nn + 1) c9)).put 1 (.slice (some ⟨gR, 0, none⟩) 4 d1)).cell 1
        have FI := Lib.hid (SN.fin (.slice A9 (nn + 1) c9) (.slice (some ⟨gR, 0, none⟩) 4 d1))
        have CAP := Lib.hid SN.own.caps.2.2
        have SM2 := Lib.hid hdv
        clear SN hdv
        go_wp2_with fail
        exact bodyPost_ret (v := .agg #[.slice A9 (nn + 1) c9, .slice (some ⟨gR, 0, none⟩) 4 d1]) (by simp [results, Try.results37, go_sem, *]) rfl ⟨A9, nn + 1, c9, some ⟨gR, 0, none⟩, 4, d1, ⟨h1.cs ++ [⟨false, 5, []⟩], h1.rt⟩, rfl, CAP.out.1, CAP.out.2, FI.out.1, fun h => absurd h hn1, SM2.out, FI.out.2.1.more (by omega), FI.out.2.2⟩
      · have hbl := S.box.lt
        have hsz0 : w.heap.size + 1 ≤ w6.heap.size := by omega
        have HAP := Lib.hid (show ∀ v ∈ (Value.slice A1 nn c1) :: (Value.slice (some ⟨gR, 0, none⟩) 4 d1) :: rvs1, (.slice (some ⟨w6.heap.size, 0, none⟩) 1 1 : Value).ownBlock = none ∨ (.slice (some ⟨w6.heap.size, 0, none⟩) 1 1 : Value).ownBlock ≠ v.ownBlock from fun v hv => .inr (fun e => by
          have := (S.own.blocks (k := w6.heap.size) hv e.symm).2
          omega))
        have H8B := Lib.hid (show (.slice (some ⟨w6.heap.size, 0, none⟩) 1 1 : Value).ownBlock ≠ some b from fun e => by
          have : w6.heap.size = b := Option.some.inj e
          omega)
        have O8 := Lib.hid (own_oneI w6 ((nn : Int) + 1) (w.heap.size + 1) hsz0)
        replace S := S.alloc (.cells #[.int .i64 ((nn : Int) + 1)] 3)
        have hw : IntKind.i64.wrap ((nn : Int) + 1) = (nn : Int) + 1 := IntWalk.i64_in _ (by omega)
        have own' := World.ownsRow.alloc S.own.row (.cells #[.bool true, .int .i64 0, .slice (some ⟨w6.heap.size, 0, none⟩) 1 1] 45)
        rw [HN.out] at own'
        have rr := Rw.new (w6.alloc (.cells #[.int .i64 ((nn : Int) + 1)] 3)) 45 #[.bool true, .int .i64 0, .slice (some ⟨w6.heap.size, 0, none⟩) 1 1]
        have SB := S.alloc (.cells #[.bool true, .int .i64 0, .slice (some ⟨w6.heap.size, 0, none⟩) 1 1] 45)
        have hsz1 : w.heap.size + 1 ≤ (w6.alloc (.cells #[.int .i64 ((nn : Int) + 1)] 3)).heap.size := by have := S.box.lt; omega
        have GO := Lib.hid (fun v9 w9 (g9 : ((w6.alloc (.cells #[.int .i64 ((nn : Int) + 1)] 3)).alloc (.cells #[.bool true, .int .i64 0, .slice (some ⟨w6.heap.size, 0, none⟩) 1 1] 45)).grownBy w9 (Value.slice A1 nn c1).ownBlock) o9 s9 => SB.snoc (cl := ⟨true, 0, [(nn : Int) + 1]⟩) (v9 := v9) (v8 := .slice (some ⟨w6.heap.size, 0, none⟩) 1 1) (w1 := w9) g9 (by rw [HN.out]; exact o9) s9 (World.ownsRow.alloc O8.out _))
        have FB := Lib.hid (fun w9 (g9 : ((w6.alloc (.cells #[.int .i64 ((nn : Int) + 1)] 3)).alloc (.cells #[.bool true, .int .i64 0, .slice (some ⟨w6.heap.size, 0, none⟩) 1 1] 45)).grownBy w9 (Value.slice A1 nn c1).ownBlock) => Rw.far SB.box g9 (fun e => by
          rcases SB.apart _ (List.mem_cons_self) with e' | e'
          · rw [e'] at e; cases e
          · exact e' e.symm))
        rw [World.size_alloc] at rr
        clear S SB
        go_upto_region 22 with (at_builtin; go_must (refine wpList_appendC rfl (.tmp 131) (.tmp 138) rfl (w.heap.size + 1) _ nn (flatC h1.cs rvs1) rfl own' (w6.heap.size + 1) true 0 (some ⟨w6.heap.size, 0, none⟩) 1 1 rfl rr (by omega) (by simp; omega) ?_; intro v9 w9 A9 c9 e9 o9 g9 s9; subst e9; have SN := GO.out _ w9 g9 o9 s9 HAP.out H8B.out; have z9 := (FB.out w9 g9).cell 0; have f9 := (FB.out w9 g9).frozen 0; clear o9 g9 s9))
        generalize w9.setCell ⟨b, 0, none⟩ (.slice A9 (nn + 1) c9) = w10 at SN ⊢
        clear z9 f9 GO FB own' rr x0 x1 fb0 fb1
        have hdv : SmallH ⟨h1.cs ++ [⟨true, 0, [(nn : Int) + 1]⟩], h1.rt⟩ := SM.out.snoc (by rw [HN.out]; exact hn40) (by simp) (by show -1 ≤ (0 : Int) ∧ (0 : Int) ≤ 100; omega) (fun x hx => by simp at hx; omega)
        have r0 : (w10).cell? ⟨b, 0, none⟩ = some (.slice A9 (nn + 1) c9) := SN.box.cell 0
        have r1 : (w10).cell? ⟨b, 1, none⟩ = some (.slice (some ⟨gR, 0, none⟩) 4 d1) := SN.box.cell 1
        have r2 : (w10).frozen? ⟨w.heap.size, 0, none⟩ = false := SN.res.frozen 0
        have r3 : (w10).frozen? ⟨w.heap.size, 1, none⟩ = false := SN.res.frozen 1
        have r4 : (w10).cell? ⟨w.heap.size, 0, none⟩ = some (.slice none 0 0) := SN.res.cell 0
        have r5 : (w10).cell? ⟨w.heap.size, 1, none⟩ = some (.slice none 0 0) := SN.res.cell 1
        have r6 : (((w10).setCell ⟨w.heap.size, 0, none⟩ (.slice A9 (nn + 1) c9)).setCell ⟨w.heap.size, 1, none⟩ (.slice (some ⟨gR, 0, none⟩) 4 d1)).cell? ⟨w.heap.size, 0, none⟩ = some (.slice A9 (nn + 1) c9) := ((SN.res.put 0 (.slice A9 (nn + 1) c9)).put 1 (.slice (some ⟨gR, 0, none⟩) 4 d1)).cell 0
        have r7 : (((w10).setCell ⟨w.heap.size, 0, none⟩ (.slice A9 (nn + 1) c9)).setCell ⟨w.heap.size, 1, none⟩ (.slice (some ⟨gR, 0, none⟩) 4 d1)).cell? ⟨w.heap.size, 1, none⟩ = some (.slice (some ⟨gR, 0, none⟩) 4 d1) := ((SN.res.put 0 (.slice A9 (nn + 1) c9)).put 1 (.slice (some ⟨gR, 0, none⟩) 4 d1)).cell 1
        have FI := Lib.hid (SN.fin (.slice A9 (nn + 1) c9) (.slice (some ⟨gR, 0, none⟩) 4 d1))
        have CAP := Lib.hid SN.own.caps.2.2
        have SM2 := Lib.hid hdv
        clear SN hdv
        go_wp2_with fail
        exact bodyPost_ret (v := .agg #[.slice A9 (nn + 1) c9, .slice (some ⟨gR, 0, none⟩) 4 d1]) (by simp [results, Try.results37, go_sem, *]) rfl ⟨A9, nn + 1, c9, some ⟨gR, 0, none⟩, 4, d1, ⟨h1.cs ++ [⟨true, 0, [(nn : Int) + 1]⟩], h1.rt⟩, rfl, CAP.out.1, CAP.out.2, FI.out.1, fun h => absurd h hn1, SM2.out, FI.out.2.1.more (by omega), FI.out.2.2⟩
      · have SR := Lib.hid S
        clear S
        go_wp2_with fail
        refine wp_region_inv (by kernel_rfl) (by kernel_rfl) (fun L ac ww => ∃ t88 t89 t90 t91 t92 t93 t94 t95 t96 t97 t98 : Value, ac = { tmps := #[Value.pointer (some { block := gr, off := 0 }), Value.int IntKind.i64 n, undef, undef, Value.pointer (some { block := w.heap.size, off := 0 }), Value.pointer (some { block := b, off := 0 }), u6, u7, u8, u9, u10, u11, u12, u13, u14, u15, u16, u17, u18, u19, u20, u21, u22, u23, u24, u25, u26, u27, u28, u29, u30, u31, u32, u33, u34, u35, u36, u37, u38, u39, u40, u41, u42, u43, u44, u45, u46, u47, u48, u49, u50, u51, u52, u53, u54, u55, u56, u57, u58, u59, u60, u61, u62, u63, u64, u65, u66, u67, u68, u69, u70, u71, u72, u73, u74, u75, u76, u77, u78, u79, u80, u81, u82, Value.pointer (some { block := gr, off := 0 }), Value.int IntKind.i64 n, Value.bool true, Value.pointer (some { block := gr, off := 0 }), Value.int IntKind.i64 4, t88, t89, t90, t91, t92, t93, t94, t95, t96, t97, t98, Value.bool false, Value.bool false, u101, u102, u103, u104, Value.bool false, Value.bool false, u107, u108, u109, u110, u111, u112, u113, u114, u115, u116, u117, u118, u119, Value.bool false, Value.bool false, u122, u123, u124, u125, u126, u127, Value.bool false, Value.bool false, u130, u131, u132, u133, u134, u135, u136, u137, u138, u139, u140, u141], defers := [] } ∧ (L 9 = false → Rd ww gr (N + 617 + 1 + 1 + (L 4).toNat) ∧ w6.grownBy ww (some gr)) ∧ (L 9 = true → ∀ q, q < 9 → L q = true) ∧ (L 11 = true → L 9 = true ∧ L 10 = true) ∧ (L 1 = true → L 0 = true) ∧ (L 4 = true → L 3 = true) ∧ (L 5 = true → L 2 = true ∧ L 4 = true ∧ L 3 = true) ∧ (L 6 = true → L 5 = true ∧ L 2 = true ∧ L 4 = true ∧ L 3 = true) ∧ (L 7 = true → L 6 = true ∧ L 5 = true ∧ L 2 = true ∧ L 4 = true ∧ L 3 = true) ∧ (L 8 = true → L 7 = true ∧ L 6 = true ∧ L 5 = true ∧ L 2 = true ∧ L 4 = true ∧ L 3 = true) ∧ (L 0 = true → t88 = (.pointer (some ⟨b, 0, none⟩))) ∧ (L 1 = true → t89 = (.slice A1 nn c1)) ∧ (L 2 = true → L 9 = true ∨ TblOf ww gr 2 (-1) 100 t90) ∧ (L 3 = true → t91 = (.pointer (some ⟨gr, 0, none⟩))) ∧ (L 4 = true → IntIn 0 1 t92) ∧ (L 5 = true → L 9 = true ∨ PtrOf ww gr 2 (-1) 100 t93) ∧ (L 6 = true → IntIn (-1) 100 t94) ∧ (L 7 = true → ∃ q : Int, t95 = .agg #[.bool true, .int .i64 q, .slice none 0 0] ∧ -1 ≤ q ∧ q ≤ 100) ∧ (L 8 = true → L 9 = true ∨ ∃ (gs : Nat) (q : Int), t96 = .slice (some ⟨gs, 0, none⟩) 1 1 ∧ -1 ≤ q ∧ q ≤ 100 ∧ Rw ww gs 45 #[.bool true, .int .i64 q, .slice none 0 0]) ∧ (L 9 = true → L 11 = true ∨ ∃ (wa : World) (A9 : Option Addr) (c9 : Nat) (q : Int), t97 = .slice A9 (nn + 1) c9 ∧ -1 ≤ q ∧ q ≤ 100 ∧ Rd wa gr (N + 617 + 1 + 1 + 1) ∧ w6.grownBy wa (some gr) ∧ wa.grownBy ww (Value.slice A1 nn c1).ownBlock ∧ ww.ownsRow (w.heap.size + 1) 45 3 (.slice A9 (nn + 1) c9) (nn + 1) (flatC h1.cs rvs1 ++ [.bool true, .int .i64 q, .slice none 0 0]) ∧ ((Value.slice A9 (nn + 1) c9).ownBlock = (Value.slice A1 nn c1).ownBlock ∨ (Value.slice A9 (nn + 1) c9).ownBlock = some wa.heap.size)) ∧ (L 10 = true → t98 = (.pointer (some ⟨b, 0, none⟩))) ∧ (L 11 = true → ∃ (wa wb : World) (A9 : Option Addr) (c9 : Nat) (q : Int), ww = wb.setCell ⟨b, 0, none⟩ (.slice A9 (nn + 1) c9) ∧ -1 ≤ q ∧ q ≤ 100 ∧ Rd wa gr (N + 617 + 1 + 1 + 1) ∧ w6.grownBy wa (some gr) ∧ wa.grownBy wb (Value.slice A1 nn c1).ownBlock ∧ wb.ownsRow (w.heap.size + 1) 45 3 (.slice A9 (nn + 1) c9) (nn + 1) (flatC h1.cs rvs1 ++ [.bool true, .int .i64 q, .slice none 0 0]) ∧ ((Value.slice A9 (nn + 1) c9).ownBlock = (Value.slice A1 nn c1).ownBlock ∨ (Value.slice A9 (nn + 1) c9).ownBlock = some wa.heap.size))) ?h0 ?hstep ?hdone
        case h0 => exact ⟨_, _, _, _, _, _, _, _, _, _, _, rfl, fun _ => ⟨by simpa using SR.out.rd.below (Below.refl _ _).drew SR.out.rd.lt, grown_below (World.grownBy.refl _ _) (Below.refl _ _).drew⟩, fun h => absurd h Bool.false_ne_true, fun h => absurd h Bool.false_ne_true, fun h => absurd h Bool.false_ne_true, fun h => absurd h Bool.false_ne_true, fun h => absurd h Bool.false_ne_true, fun h => absurd h Bool.false_ne_true, fun h => absurd h Bool.false_ne_true, fun h => absurd h Bool.false_ne_true, (fun h => absurd h Bool.false_ne_true), (fun h => absurd h Bool.false_ne_true), (fun h => absurd h Bool.false_ne_true), (fun h => absurd h Bool.false_ne_true), (fun h => absurd h Bool.false_ne_true), (fun h => absurd h Bool.false_ne_true), (fun h => absurd h Bool.false_ne_true), (fun h => absurd h Bool.false_ne_true), (fun h => absurd h Bool.false_ne_true), (fun h => absurd h Bool.false_ne_true), (fun h => absurd h Bool.false_ne_true), (fun h => absurd h Bool.false_ne_true)⟩
        case hstep =>
          rintro L ac ww i o ho hL hd ⟨t88, t89, t90, t91, t92, t93, t94, t95, t96, t97, t98, rfl, I0, I1, I2, I3, I4, I5, I6, I7, I8, f0, f1, f2, f3, f4, f5, f6, f7, f8, f9, f10, f11⟩
          have hi : i < 12 := (Array.getElem?_eq_some_iff.1 ho).1
          obtain rfl | rfl | rfl | rfl | rfl | rfl | rfl | rfl | rfl | rfl | rfl | rfl : i = 0 ∨ i = 1 ∨ i = 2 ∨ i = 3 ∨ i = 4 ∨ i = 5 ∨ i = 6 ∨ i = 7 ∨ i = 8 ∨ i = 9 ∨ i = 10 ∨ i = 11 := by omega
          · obtain rfl := Option.some.inj ho
            have h17 : L 9 = false := by
              cases e : L 9
              · rfl
              · exact absurd (I1 e 0 (by decide)) (by rw [hL]; simp)
            have h18 : L 11 = false := by
              cases e : L 11
              · rfl
              · exact absurd (I2 e).1 (by rw [h17]; simp)
            obtain ⟨rd, gb⟩ := I0 h17
            refine wpOp_step rfl (fun K' hK => ?_)
            go_simp
            refine hK _ _ ?_
            exact ⟨_, _, _, _, _, _, _, _, _, _, _, rfl, (fun _ => ⟨by rw [upd_other (by decide)]; exact rd, gb⟩), (upd_all I1 (by decide)), (fun h => ⟨upd_mono (I2 (upd_ne h (by decide))).1, upd_mono (I2 (upd_ne h (by decide))).2⟩), (fun h => upd_mono (I3 (upd_ne h (by decide)))), (fun h => upd_mono (I4 (upd_ne h (by decide)))), (fun h => let p := I5 (upd_ne h (by decide)); ⟨upd_mono p.1, upd_mono p.2.1, upd_mono p.2.2⟩), (fun h => let p := I6 (upd_ne h (by decide)); ⟨upd_mono p.1, upd_mono p.2.1, upd_mono p.2.2.1, upd_mono p.2.2.2⟩), (fun h => let p := I7 (upd_ne h (by decide)); ⟨upd_mono p.1, upd_mono p.2.1, upd_mono p.2.2.1, upd_mono p.2.2.2.1, upd_mono p.2.2.2.2⟩), (fun h => let p := I8 (upd_ne h (by decide)); ⟨upd_mono p.1, upd_mono p.2.1, upd_mono p.2.2.1, upd_mono p.2.2.2.1, upd_mono p.2.2.2.2.1, upd_mono p.2.2.2.2.2⟩), (fun _ => by first | rfl | simp), (kp f1), (fun h => (f2 (upd_ne h (by decide))).imp (fun e => upd_mono e) id), (kp f3), (kp f4), (fun h => (f5 (upd_ne h (by decide))).imp (fun e => upd_mono e) id), (kp f6), (kp f7), (fun h => (f8 (upd_ne h (by decide))).imp (fun e => upd_mono e) id), (fun h => absurd (upd_ne h (by decide)) (by rw [h17]; simp)), (kp f10), (fun h => absurd (upd_ne h (by decide)) (by rw [h18]; simp))⟩
          · obtain rfl := Option.some.inj ho
            have g0 := f0 (hd ⟨0, .data⟩ (by simp) rfl)
            subst g0
            have h17 : L 9 = false := by
              cases e : L 9
              · rfl
              · exact absurd (I1 e 1 (by decide)) (by rw [hL]; simp)
            have h18 : L 11 = false := by
              cases e : L 11
              · rfl
              · exact absurd (I2 e).1 (by rw [h17]; simp)
            obtain ⟨rd, gb⟩ := I0 h17
            have y0 : ww.cell? ⟨b, 0, none⟩ = some (.slice A1 nn c1) := gb.cell x0 (fun e => by injection e with e; simp only at e; omega)
            have c0 := Lib.hid (hd ⟨0, .data⟩ (by simp) rfl)
            refine wpOp_step rfl (fun K' hK => ?_)
            go_simp
            refine hK _ _ ?_
            exact ⟨_, _, _, _, _, _, _, _, _, _, _, rfl, (fun _ => ⟨by rw [upd_other (by decide)]; exact rd, gb⟩), (upd_all I1 (by decide)), (fun h => ⟨upd_mono (I2 (upd_ne h (by decide))).1, upd_mono (I2 (upd_ne h (by decide))).2⟩), (fun _ => upd_mono c0.out), (fun h => upd_mono (I4 (upd_ne h (by decide)))), (fun h => let p := I5 (upd_ne h (by decide)); ⟨upd_mono p.1, upd_mono p.2.1, upd_mono p.2.2⟩), (fun h => let p := I6 (upd_ne h (by decide)); ⟨upd_mono p.1, upd_mono p.2.1, upd_mono p.2.2.1, upd_mono p.2.2.2⟩), (fun h => let p := I7 (upd_ne h (by decide)); ⟨upd_mono p.1, upd_mono p.2.1, upd_mono p.2.2.1, upd_mono p.2.2.2.1, upd_mono p.2.2.2.2⟩), (fun h => let p := I8 (upd_ne h (by decide)); ⟨upd_mono p.1, upd_mono p.2.1, upd_mono p.2.2.1, upd_mono p.2.2.2.1, upd_mono p.2.2.2.2.1, upd_mono p.2.2.2.2.2⟩), (kp f0), (fun _ => by first | rfl | simp), (fun h => (f2 (upd_ne h (by decide))).imp (fun e => upd_mono e) id), (kp f3), (kp f4), (fun h => (f5 (upd_ne h (by decide))).imp (fun e => upd_mono e) id), (kp f6), (kp f7), (fun h => (f8 (upd_ne h (by decide))).imp (fun e => upd_mono e) id), (fun h => absurd (upd_ne h (by decide)) (by rw [h17]; simp)), (kp f10), (fun h => absurd (upd_ne h (by decide)) (by rw [h18]; simp))⟩
          · obtain rfl := Option.some.inj ho
            have h17 : L 9 = false := by
              cases e : L 9
              · rfl
              · exact absurd (I1 e 2 (by decide)) (by rw [hL]; simp)
            have h18 : L 11 = false := by
              cases e : L 11
              · rfl
              · exact absurd (I2 e).1 (by rw [h17]; simp)
            obtain ⟨rd, gb⟩ := I0 h17
            refine wpOp_step rfl (fun K' hK => ?_)
            go_simp
            refine hK _ _ ?_
            exact ⟨_, _, _, _, _, _, _, _, _, _, _, rfl, (fun _ => ⟨by rw [upd_other (by decide)]; exact rd.below ((Below.refl ww.heap.size ww).alloc (Nat.le_refl _) _) rd.lt, World.grownBy.trans gb (World.grownBy_alloc _ _ _)⟩), (upd_all I1 (by decide)), (fun h => ⟨upd_mono (I2 (upd_ne h (by decide))).1, upd_mono (I2 (upd_ne h (by decide))).2⟩), (fun h => upd_mono (I3 (upd_ne h (by decide)))), (fun h => upd_mono (I4 (upd_ne h (by decide)))), (fun h => let p := I5 (upd_ne h (by decide)); ⟨upd_mono p.1, upd_mono p.2.1, upd_mono p.2.2⟩), (fun h => let p := I6 (upd_ne h (by decide)); ⟨upd_mono p.1, upd_mono p.2.1, upd_mono p.2.2.1, upd_mono p.2.2.2⟩), (fun h => let p := I7 (upd_ne h (by decide)); ⟨upd_mono p.1, upd_mono p.2.1, upd_mono p.2.2.1, upd_mono p.2.2.2.1, upd_mono p.2.2.2.2⟩), (fun h => let p := I8 (upd_ne h (by decide)); ⟨upd_mono p.1, upd_mono p.2.1, upd_mono p.2.2.1, upd_mono p.2.2.2.1, upd_mono p.2.2.2.2.1, upd_mono p.2.2.2.2.2⟩), (kp f0), (kp f1), (fun _ => .inr ⟨_, rfl, Tbl.new ww gr _ [-1, 100] (-1) 100 rd.lt (by intro q hq; simp at hq; omega) _ rfl⟩), (kp f3), (kp f4), (fun h => (f5 (upd_ne h (by decide))).imp (fun e => upd_mono e) (fun T => T.alloc _)), (kp f6), (kp f7), (fun h => (f8 (upd_ne h (by decide))).imp (fun e => upd_mono e) (fun ⟨gs, q, e, q1, q2, r⟩ => ⟨gs, q, e, q1, q2, r.alloc _⟩)), (fun h => absurd (upd_ne h (by decide)) (by rw [h17]; simp)), (kp f10), (fun h => absurd (upd_ne h (by decide)) (by rw [h18]; simp))⟩
          · obtain rfl := Option.some.inj ho
            have h17 : L 9 = false := by
              cases e : L 9
              · rfl
              · exact absurd (I1 e 3 (by decide)) (by rw [hL]; simp)
            have h18 : L 11 = false := by
              cases e : L 11
              · rfl
              · exact absurd (I2 e).1 (by rw [h17]; simp)
            obtain ⟨rd, gb⟩ := I0 h17
            refine wpOp_step rfl (fun K' hK => ?_)
            go_simp
            refine hK _ _ ?_
            exact ⟨_, _, _, _, _, _, _, _, _, _, _, rfl, (fun _ => ⟨by rw [upd_other (by decide)]; exact rd, gb⟩), (upd_all I1 (by decide)), (fun h => ⟨upd_mono (I2 (upd_ne h (by decide))).1, upd_mono (I2 (upd_ne h (by decide))).2⟩), (fun h => upd_mono (I3 (upd_ne h (by decide)))), (fun h => upd_mono (I4 (upd_ne h (by decide)))), (fun h => let p := I5 (upd_ne h (by decide)); ⟨upd_mono p.1, upd_mono p.2.1, upd_mono p.2.2⟩), (fun h => let p := I6 (upd_ne h (by decide)); ⟨upd_mono p.1, upd_mono p.2.1, upd_mono p.2.2.1, upd_mono p.2.2.2⟩), (fun h => let p := I7 (upd_ne h (by decide)); ⟨upd_mono p.1, upd_mono p.2.1, upd_mono p.2.2.1, upd_mono p.2.2.2.1, upd_mono p.2.2.2.2⟩), (fun h => let p := I8 (upd_ne h (by decide)); ⟨upd_mono p.1, upd_mono p.2.1, upd_mono p.2.2.1, upd_mono p.2.2.2.1, upd_mono p.2.2.2.2.1, upd_mono p.2.2.2.2.2⟩), (kp f0), (kp f1), (fun h => (f2 (upd_ne h (by decide))).imp (fun e => upd_mono e) id), (fun _ => by first | rfl | simp), (kp f4), (fun h => (f5 (upd_ne h (by decide))).imp (fun e => upd_mono e) id), (kp f6), (kp f7), (fun h => (f8 (upd_ne h (by decide))).imp (fun e => upd_mono e) id), (fun h => absurd (upd_ne h (by decide)) (by rw [h17]; simp)), (kp f10), (fun h => absurd (upd_ne h (by decide)) (by rw [h18]; simp))⟩
          · obtain rfl := Option.some.inj ho
            have g3 := f3 (hd ⟨3, .data⟩ (by simp) rfl)
            subst g3
            have h17 : L 9 = false := by
              cases e : L 9
              · rfl
              · exact absurd (I1 e 4 (by decide)) (by rw [hL]; simp)
            have h18 : L 11 = false := by
              cases e : L 11
              · rfl
              · exact absurd (I2 e).1 (by rw [h17]; simp)
            obtain ⟨rd, gb⟩ := I0 h17
            have c3 := Lib.hid (hd ⟨3, .data⟩ (by simp) rfl)
            refine wpOp_step rfl (fun K' hK => ?_)
            go_simp
            refine (pick_any gr _ 2 ww rd (by have := Bool.toNat_le (L 4); have := Bool.toNat_le (L 4); omega) (by omega)).mono ?_
            rintro e w' ⟨r, rfl, r0', r1', hr, G⟩
            refine hK _ _ ?_
            exact ⟨_, _, _, _, _, _, _, _, _, _, _, rfl, (fun _ => ⟨by rw [upd_self]; rw [hL] at hr; exact hr.more (by simp), World.grownBy.trans gb G⟩), (upd_all I1 (by decide)), (fun h => ⟨upd_mono (I2 (upd_ne h (by decide))).1, upd_mono (I2 (upd_ne h (by decide))).2⟩), (fun h => upd_mono (I3 (upd_ne h (by decide)))), (fun _ => upd_mono c3.out), (fun h => let p := I5 (upd_ne h (by decide)); ⟨upd_mono p.1, upd_mono p.2.1, upd_mono p.2.2⟩), (fun h => let p := I6 (upd_ne h (by decide)); ⟨upd_mono p.1, upd_mono p.2.1, upd_mono p.2.2.1, upd_mono p.2.2.2⟩), (fun h => let p := I7 (upd_ne h (by decide)); ⟨upd_mono p.1, upd_mono p.2.1, upd_mono p.2.2.1, upd_mono p.2.2.2.1, upd_mono p.2.2.2.2⟩), (fun h => let p := I8 (upd_ne h (by decide)); ⟨upd_mono p.1, upd_mono p.2.1, upd_mono p.2.2.1, upd_mono p.2.2.2.1, upd_mono p.2.2.2.2.1, upd_mono p.2.2.2.2.2⟩), (kp f0), (kp f1), (fun h => (f2 (upd_ne h (by decide))).imp (fun e => upd_mono e) (fun T => T.pick G)), (kp f3), (fun _ => ⟨r, rfl, r0', by omega⟩), (fun h => (f5 (upd_ne h (by decide))).imp (fun e => upd_mono e) (fun T => T.pick G)), (kp f6), (kp f7), (fun h => absurd (I8 (upd_ne h (by decide))).2.2.2.2.1 (by rw [hL]; simp)), (fun h => absurd (upd_ne h (by decide)) (by rw [h17]; simp)), (kp f10), (fun h => absurd (upd_ne h (by decide)) (by rw [h18]; simp))⟩
          · obtain rfl := Option.some.inj ho
            have g2 := f2 (hd ⟨2, .data⟩ (by simp) rfl)
            have g4 := f4 (hd ⟨4, .data⟩ (by simp) rfl)
            have h17 : L 9 = false := by
              cases e : L 9
              · rfl
              · exact absurd (I1 e 5 (by decide)) (by rw [hL]; simp)
            have h18 : L 11 = false := by
              cases e : L 11
              · rfl
              · exact absurd (I2 e).1 (by rw [h17]; simp)
            obtain ⟨rd, gb⟩ := I0 h17
            obtain ⟨gt, rfl, T7⟩ := g2.resolve_left (by rw [h17]; simp)
            obtain ⟨q8, rfl, q81, q82⟩ := g4
            obtain ⟨n8, rfl⟩ := Int.eq_ofNat_of_zero_le (show 0 ≤ q8 by omega)
            have l8 : n8 < 2 := by omega
            have l8' : (n8 : Int) < 2 := by omega
            have c2 := Lib.hid (hd ⟨2, .data⟩ (by simp) rfl)
            have c4 := Lib.hid (hd ⟨4, .data⟩ (by simp) rfl)
            have c3 := Lib.hid (I4 c4.out)
            refine wpOp_step rfl (fun K' hK => ?_)
            go_simp
            refine hK _ _ ?_
            exact ⟨_, _, _, _, _, _, _, _, _, _, _, rfl, (fun _ => ⟨by rw [upd_other (by decide)]; exact rd, gb⟩), (upd_all I1 (by decide)), (fun h => ⟨upd_mono (I2 (upd_ne h (by decide))).1, upd_mono (I2 (upd_ne h (by decide))).2⟩), (fun h => upd_mono (I3 (upd_ne h (by decide)))), (fun h => upd_mono (I4 (upd_ne h (by decide)))), (fun _ => ⟨upd_mono c2.out, upd_mono c4.out, upd_mono c3.out⟩), (fun h => let p := I6 (upd_ne h (by decide)); ⟨upd_mono p.1, upd_mono p.2.1, upd_mono p.2.2.1, upd_mono p.2.2.2⟩), (fun h => let p := I7 (upd_ne h (by decide)); ⟨upd_mono p.1, upd_mono p.2.1, upd_mono p.2.2.1, upd_mono p.2.2.2.1, upd_mono p.2.2.2.2⟩), (fun h => let p := I8 (upd_ne h (by decide)); ⟨upd_mono p.1, upd_mono p.2.1, upd_mono p.2.2.1, upd_mono p.2.2.2.1, upd_mono p.2.2.2.2.1, upd_mono p.2.2.2.2.2⟩), (kp f0), (kp f1), (fun _ => .inr ⟨gt, rfl, T7⟩), (kp f3), (fun _ => ⟨(n8 : Int), rfl, by omega, by omega⟩), (fun _ => .inr ⟨gt, n8, by simp, l8, T7⟩), (kp f6), (kp f7), (fun h => (f8 (upd_ne h (by decide))).imp (fun e => upd_mono e) id), (fun h => absurd (upd_ne h (by decide)) (by rw [h17]; simp)), (kp f10), (fun h => absurd (upd_ne h (by decide)) (by rw [h18]; simp))⟩
          · obtain rfl := Option.some.inj ho
            have g5 := f5 (hd ⟨5, .data⟩ (by simp) rfl)
            have h17 : L 9 = false := by
              cases e : L 9
              · rfl
              · exact absurd (I1 e 6 (by decide)) (by rw [hL]; simp)
            have h18 : L 11 = false := by
              cases e : L 11
              · rfl
              · exact absurd (I2 e).1 (by rw [h17]; simp)
            obtain ⟨rd, gb⟩ := I0 h17
            obtain ⟨gt, n9, rfl, l9, T9⟩ := g5.resolve_left (by rw [h17]; simp)
            obtain ⟨q9, hq9, q91, q92⟩ := T9.2.2 n9 l9
            have c5 := Lib.hid (hd ⟨5, .data⟩ (by simp) rfl)
            have cp := I5 c5.out
            have c2 := Lib.hid cp.1
            have c4 := Lib.hid cp.2.1
            have c3 := Lib.hid cp.2.2
            clear cp
            refine wpOp_step rfl (fun K' hK => ?_)
            go_simp
            refine hK _ _ ?_
            exact ⟨_, _, _, _, _, _, _, _, _, _, _, rfl, (fun _ => ⟨by rw [upd_other (by decide)]; exact rd, gb⟩), (upd_all I1 (by decide)), (fun h => ⟨upd_mono (I2 (upd_ne h (by decide))).1, upd_mono (I2 (upd_ne h (by decide))).2⟩), (fun h => upd_mono (I3 (upd_ne h (by decide)))), (fun h => upd_mono (I4 (upd_ne h (by decide)))), (fun h => let p := I5 (upd_ne h (by decide)); ⟨upd_mono p.1, upd_mono p.2.1, upd_mono p.2.2⟩), (fun _ => ⟨upd_mono c5.out, upd_mono c2.out, upd_mono c4.out, upd_mono c3.out⟩), (fun h => let p := I7 (upd_ne h (by decide)); ⟨upd_mono p.1, upd_mono p.2.1, upd_mono p.2.2.1, upd_mono p.2.2.2.1, upd_mono p.2.2.2.2⟩), (fun h => let p := I8 (upd_ne h (by decide)); ⟨upd_mono p.1, upd_mono p.2.1, upd_mono p.2.2.1, upd_mono p.2.2.2.1, upd_mono p.2.2.2.2.1, upd_mono p.2.2.2.2.2⟩), (kp f0), (kp f1), (fun h => (f2 (upd_ne h (by decide))).imp (fun e => upd_mono e) id), (kp f3), (kp f4), (fun _ => .inr ⟨gt, n9, rfl, l9, T9⟩), (fun _ => ⟨q9, rfl, q91, q92⟩), (kp f7), (fun h => (f8 (upd_ne h (by decide))).imp (fun e => upd_mono e) id), (fun h => absurd (upd_ne h (by decide)) (by rw [h17]; simp)), (kp f10), (fun h => absurd (upd_ne h (by decide)) (by rw [h18]; simp))⟩
          · obtain rfl := Option.some.inj ho
            have g6 := f6 (hd ⟨6, .data⟩ (by simp) rfl)
            have h17 : L 9 = false := by
              cases e : L 9
              · rfl
              · exact absurd (I1 e 7 (by decide)) (by rw [hL]; simp)
            have h18 : L 11 = false := by
              cases e : L 11
              · rfl
              · exact absurd (I2 e).1 (by rw [h17]; simp)
            obtain ⟨rd, gb⟩ := I0 h17
            obtain ⟨q, rfl, q1, q2⟩ := g6
            have c6 := Lib.hid (hd ⟨6, .data⟩ (by simp) rfl)
            have cp := I6 c6.out
            have c5 := Lib.hid cp.1
            have c2 := Lib.hid cp.2.1
            have c4 := Lib.hid cp.2.2.1
            have c3 := Lib.hid cp.2.2.2
            clear cp
            refine wpOp_step rfl (fun K' hK => ?_)
            go_simp
            refine hK _ _ ?_
            exact ⟨_, _, _, _, _, _, _, _, _, _, _, rfl, (fun _ => ⟨by rw [upd_other (by decide)]; exact rd, gb⟩), (upd_all I1 (by decide)), (fun h => ⟨upd_mono (I2 (upd_ne h (by decide))).1, upd_mono (I2 (upd_ne h (by decide))).2⟩), (fun h => upd_mono (I3 (upd_ne h (by decide)))), (fun h => upd_mono (I4 (upd_ne h (by decide)))), (fun h => let p := I5 (upd_ne h (by decide)); ⟨upd_mono p.1, upd_mono p.2.1, upd_mono p.2.2⟩), (fun h => let p := I6 (upd_ne h (by decide)); ⟨upd_mono p.1, upd_mono p.2.1, upd_mono p.2.2.1, upd_mono p.2.2.2⟩), (fun _ => ⟨upd_mono c6.out, upd_mono c5.out, upd_mono c2.out, upd_mono c4.out, upd_mono c3.out⟩), (fun h => let p := I8 (upd_ne h (by decide)); ⟨upd_mono p.1, upd_mono p.2.1, upd_mono p.2.2.1, upd_mono p.2.2.2.1, upd_mono p.2.2.2.2.1, upd_mono p.2.2.2.2.2⟩), (kp f0), (kp f1), (fun h => (f2 (upd_ne h (by decide))).imp (fun e => upd_mono e) id), (kp f3), (kp f4), (fun h => (f5 (upd_ne h (by decide))).imp (fun e => upd_mono e) id), (fun _ => ⟨q, rfl, q1, q2⟩), (fun _ => ⟨q, rfl, q1, q2⟩), (fun h => (f8 (upd_ne h (by decide))).imp (fun e => upd_mono e) id), (fun h => absurd (upd_ne h (by decide)) (by rw [h17]; simp)), (kp f10), (fun h => absurd (upd_ne h (by decide)) (by rw [h18]; simp))⟩
          · obtain rfl := Option.some.inj ho
            have g7 := f7 (hd ⟨7, .data⟩ (by simp) rfl)
            have h17 : L 9 = false := by
              cases e : L 9
              · rfl
              · exact absurd (I1 e 8 (by decide)) (by rw [hL]; simp)
            have h18 : L 11 = false := by
              cases e : L 11
              · rfl
              · exact absurd (I2 e).1 (by rw [h17]; simp)
            obtain ⟨rd, gb⟩ := I0 h17
            obtain ⟨q, rfl, q1, q2⟩ := g7
            have c7 := Lib.hid (hd ⟨7, .data⟩ (by simp) rfl)
            have cp := I7 c7.out
            have c6 := Lib.hid cp.1
            have c5 := Lib.hid cp.2.1
            have c2 := Lib.hid cp.2.2.1
            have c4 := Lib.hid cp.2.2.2.1
            have c3 := Lib.hid cp.2.2.2.2
            clear cp
            refine wpOp_step rfl (fun K' hK => ?_)
            go_simp
            refine hK _ _ ?_
            exact ⟨_, _, _, _, _, _, _, _, _, _, _, rfl, (fun _ => ⟨by rw [upd_other (by decide)]; exact rd.below ((Below.refl ww.heap.size ww).alloc (Nat.le_refl _) _) rd.lt, World.grownBy.trans gb (World.grownBy_alloc _ _ _)⟩), (upd_all I1 (by decide)), (fun h => ⟨upd_mono (I2 (upd_ne h (by decide))).1, upd_mono (I2 (upd_ne h (by decide))).2⟩), (fun h => upd_mono (I3 (upd_ne h (by decide)))), (fun h => upd_mono (I4 (upd_ne h (by decide)))), (fun h => let p := I5 (upd_ne h (by decide)); ⟨upd_mono p.1, upd_mono p.2.1, upd_mono p.2.2⟩), (fun h => let p := I6 (upd_ne h (by decide)); ⟨upd_mono p.1, upd_mono p.2.1, upd_mono p.2.2.1, upd_mono p.2.2.2⟩), (fun h => let p := I7 (upd_ne h (by decide)); ⟨upd_mono p.1, upd_mono p.2.1, upd_mono p.2.2.1, upd_mono p.2.2.2.1, upd_mono p.2.2.2.2⟩), (fun _ => ⟨upd_mono c7.out, upd_mono c6.out, upd_mono c5.out, upd_mono c2.out, upd_mono c4.out, upd_mono c3.out⟩), (kp f0), (kp f1), (fun h => (f2 (upd_ne h (by decide))).imp (fun e => upd_mono e) (fun T => T.alloc _)), (kp f3), (kp f4), (fun h => (f5 (upd_ne h (by decide))).imp (fun e => upd_mono e) (fun T => T.alloc _)), (kp f6), (fun _ => ⟨q, rfl, q1, q2⟩), (fun _ => .inr ⟨_, q, rfl, q1, q2, Rw.new _ _ _⟩), (fun h => absurd (upd_ne h (by decide)) (by rw [h17]; simp)), (kp f10), (fun h => absurd (upd_ne h (by decide)) (by rw [h18]; simp))⟩
          · obtain rfl := Option.some.inj ho
            have g1 := f1 (hd ⟨1, .data⟩ (by simp) rfl)
            have g8 := f8 (hd ⟨8, .data⟩ (by simp) rfl)
            subst g1
            obtain ⟨rd, gb⟩ := I0 hL
            have h18 : L 11 = false := by
              cases e : L 11
              · rfl
              · exact absurd (I2 e).1 (by rw [hL]; simp)
            have h4 := hd ⟨4, .chain⟩ (by simp) rfl
            obtain ⟨gs, q, rfl, q1, q2, hz⟩ := g8.resolve_left (by rw [hL]; simp)
            have SP := SR.out.pick rd gb
            have own9 := SP.own.row
            rw [HN.out] at own9
            have hb9 : w.heap.size + 1 ≤ ww.heap.size := by have := SP.box.lt; omega
            have c1 := Lib.hid (hd ⟨1, .data⟩ (by simp) rfl)
            have c8 := Lib.hid (hd ⟨8, .data⟩ (by simp) rfl)
            have c0 := Lib.hid (I3 c1.out)
            have cp := I8 c8.out
            have c7 := Lib.hid cp.1
            have c6 := Lib.hid cp.2.1
            have c5 := Lib.hid cp.2.2.1
            have c2 := Lib.hid cp.2.2.2.1
            have c4 := Lib.hid cp.2.2.2.2.1
            have c3 := Lib.hid cp.2.2.2.2.2
            clear cp
            refine wpOp_step rfl (fun K' hK => ?_)
            refine app_stepC rfl (.tmp 89) (.tmp 96) rfl (w.heap.size + 1) _ nn (flatC h1.cs rvs1) rfl own9 gs true q none 0 0 rfl hz (by omega) hb9 ?_
            intro v' w' A9 c9 e9 o9 G9 s9
            subst e9
            refine hK _ _ ?_
            exact ⟨_, _, _, _, _, _, _, _, _, _, _, rfl, (fun h => absurd h (by rw [upd_self]; simp)), (fun _ q hq => upd_mono (by
              have hq17 : q = 0 ∨ q = 1 ∨ q = 2 ∨ q = 3 ∨ q = 4 ∨ q = 5 ∨ q = 6 ∨ q = 7 ∨ q = 8 := by omega
              rcases hq17 with rfl | rfl | rfl | rfl | rfl | rfl | rfl | rfl | rfl
              · exact c0.out
              · exact c1.out
              · exact c2.out
              · exact c3.out
              · exact c4.out
              · exact c5.out
              · exact c6.out
              · exact c7.out
              · exact c8.out)), (fun h => ⟨upd_mono (I2 (upd_ne h (by decide))).1, upd_mono (I2 (upd_ne h (by decide))).2⟩), (fun h => upd_mono (I3 (upd_ne h (by decide)))), (fun h => upd_mono (I4 (upd_ne h (by decide)))), (fun h => let p := I5 (upd_ne h (by decide)); ⟨upd_mono p.1, upd_mono p.2.1, upd_mono p.2.2⟩), (fun h => let p := I6 (upd_ne h (by decide)); ⟨upd_mono p.1, upd_mono p.2.1, upd_mono p.2.2.1, upd_mono p.2.2.2⟩), (fun h => let p := I7 (upd_ne h (by decide)); ⟨upd_mono p.1, upd_mono p.2.1, upd_mono p.2.2.1, upd_mono p.2.2.2.1, upd_mono p.2.2.2.2⟩), (fun h => let p := I8 (upd_ne h (by decide)); ⟨upd_mono p.1, upd_mono p.2.1, upd_mono p.2.2.1, upd_mono p.2.2.2.1, upd_mono p.2.2.2.2.1, upd_mono p.2.2.2.2.2⟩), (kp f0), (kp f1), (fun _ => .inl upd_self), (kp f3), (kp f4), (fun _ => .inl upd_self), (kp f6), (kp f7), (fun _ => .inl upd_self), (fun _ => .inr ⟨ww, A9, c9, q, rfl, q1, q2, rd.more (by rw [h4]; simp), gb, G9, o9, s9⟩), (kp f10), (fun h => absurd (upd_ne h (by decide)) (by rw [h18]; simp))⟩
          · obtain rfl := Option.some.inj ho
            refine wpOp_step rfl (fun K' hK => ?_)
            go_simp
            refine hK _ _ ?_
            exact ⟨_, _, _, _, _, _, _, _, _, _, _, rfl, (fun h => ⟨by rw [upd_other (by decide)]; exact (I0 (by rw [upd_other (by decide)] at h; exact h)).1, (I0 (by rw [upd_other (by decide)] at h; exact h)).2⟩), (upd_all I1 (by decide)), (fun h => ⟨upd_mono (I2 (upd_ne h (by decide))).1, upd_mono (I2 (upd_ne h (by decide))).2⟩), (fun h => upd_mono (I3 (upd_ne h (by decide)))), (fun h => upd_mono (I4 (upd_ne h (by decide)))), (fun h => let p := I5 (upd_ne h (by decide)); ⟨upd_mono p.1, upd_mono p.2.1, upd_mono p.2.2⟩), (fun h => let p := I6 (upd_ne h (by decide)); ⟨upd_mono p.1, upd_mono p.2.1, upd_mono p.2.2.1, upd_mono p.2.2.2⟩), (fun h => let p := I7 (upd_ne h (by decide)); ⟨upd_mono p.1, upd_mono p.2.1, upd_mono p.2.2.1, upd_mono p.2.2.2.1, upd_mono p.2.2.2.2⟩), (fun h => let p := I8 (upd_ne h (by decide)); ⟨upd_mono p.1, upd_mono p.2.1, upd_mono p.2.2.1, upd_mono p.2.2.2.1, upd_mono p.2.2.2.2.1, upd_mono p.2.2.2.2.2⟩), (kp f0), (kp f1), (fun h => (f2 (upd_ne h (by decide))).imp (fun e => upd_mono e) id), (kp f3), (kp f4), (fun h => (f5 (upd_ne h (by decide))).imp (fun e => upd_mono e) id), (kp f6), (kp f7), (fun h => (f8 (upd_ne h (by decide))).imp (fun e => upd_mono e) id), (fun h => (f9 (upd_ne h (by decide))).imp (fun e => upd_mono e) id), (fun _ => by first | rfl | simp), (kp f11)⟩
          · obtain rfl := Option.some.inj ho
            have g9 := f9 (hd ⟨9, .data⟩ (by simp) rfl)
            have g10 := f10 (hd ⟨10, .data⟩ (by simp) rfl)
            subst g10
            obtain ⟨wa, A9, c9, q, rfl, q1, q2, rd, gb, G9, o9, s9⟩ := g9.resolve_left (by rw [hL]; simp)
            have SP := SR.out.pick rd gb
            have bx := Rw.far SP.box G9 (fun e => by
              rcases SP.apart _ (List.mem_cons_self) with e' | e'
              · rw [e'] at e; cases e
              · exact e' e.symm)
            have u0 := bx.cell 0
            have u1 := bx.frozen 0
            simp at u0
            clear bx SP
            refine wpOp_step rfl (fun K' hK => ?_)
            go_simp
            refine hK _ _ ?_
            exact ⟨_, _, _, _, _, _, _, _, _, _, _, rfl, (fun h => absurd (upd_mono (hd ⟨9, .data⟩ (by simp) rfl)) (by rw [h]; simp)), (upd_all I1 (by decide)), (fun _ => ⟨upd_mono (hd ⟨9, .data⟩ (by simp) rfl), upd_mono (hd ⟨10, .data⟩ (by simp) rfl)⟩), (fun h => upd_mono (I3 (upd_ne h (by decide)))), (fun h => upd_mono (I4 (upd_ne h (by decide)))), (fun h => let p := I5 (upd_ne h (by decide)); ⟨upd_mono p.1, upd_mono p.2.1, upd_mono p.2.2⟩), (fun h => let p := I6 (upd_ne h (by decide)); ⟨upd_mono p.1, upd_mono p.2.1, upd_mono p.2.2.1, upd_mono p.2.2.2⟩), (fun h => let p := I7 (upd_ne h (by decide)); ⟨upd_mono p.1, upd_mono p.2.1, upd_mono p.2.2.1, upd_mono p.2.2.2.1, upd_mono p.2.2.2.2⟩), (fun h => let p := I8 (upd_ne h (by decide)); ⟨upd_mono p.1, upd_mono p.2.1, upd_mono p.2.2.1, upd_mono p.2.2.2.1, upd_mono p.2.2.2.2.1, upd_mono p.2.2.2.2.2⟩), (kp f0), (kp f1), (fun _ => .inl (upd_mono (hd ⟨9, .data⟩ (by simp) rfl))), (kp f3), (kp f4), (fun _ => .inl (upd_mono (hd ⟨9, .data⟩ (by simp) rfl))), (kp f6), (kp f7), (fun _ => .inl (upd_mono (hd ⟨9, .data⟩ (by simp) rfl))), (fun _ => .inl upd_self), (kp f10), (fun _ => ⟨wa, ww, A9, c9, q, rfl, q1, q2, rd, gb, G9, o9, s9⟩)⟩
        case hdone =>
          rintro L ac ww hall ⟨t88, t89, t90, t91, t92, t93, t94, t95, t96, t97, t98, rfl, I0, I1, I2, I3, I4, I5, I6, I7, I8, f0, f1, f2, f3, f4, f5, f6, f7, f8, f9, f10, f11⟩
          have e0 := f0 (hall 0 (by decide))
          have e1 := f1 (hall 1 (by decide))
          have e2 := f2 (hall 2 (by decide))
          have e3 := f3 (hall 3 (by decide))
          have e4 := f4 (hall 4 (by decide))
          have e5 := f5 (hall 5 (by decide))
          have e6 := f6 (hall 6 (by decide))
          have e7 := f7 (hall 7 (by decide))
          have e8 := f8 (hall 8 (by decide))
          have e9 := f9 (hall 9 (by decide))
          have e10 := f10 (hall 10 (by decide))
          have e11 := f11 (hall 11 (by decide))
          clear f0 f1 f2 f3 f4 f5 f6 f7 f8 f9 f10 f11
          obtain ⟨wa, wb, A9, c9, q, rfl, q1, q2, rd1, gb1, G9, o9, s9⟩ := e11
          have SN := (SR.out.pick rd1 gb1).snoc (cl := ⟨true, q, []⟩) (v9 := .slice A9 (nn + 1) c9) (v8 := .slice none 0 0) (w1 := wb) G9 (by rw [HN.out]; exact o9) s9 (World.ownsRow_nil _ _ _ _) (fun _ _ => .inl rfl) (by simp [Value.ownBlock])
          have hdv : SmallH ⟨h1.cs ++ [⟨true, q, []⟩], h1.rt⟩ := SM.out.snoc (by rw [HN.out]; exact hn40) (by simp) ⟨q1, q2⟩ (fun x hx => by simp at hx)
          generalize wb.setCell ⟨b, 0, none⟩ (.slice A9 (nn + 1) c9) = w10 at SN ⊢
          have r0 : (w10).cell? ⟨b, 0, none⟩ = some (.slice A9 (nn + 1) c9) := SN.box.cell 0
          have r1 : (w10).cell? ⟨b, 1, none⟩ = some (.slice (some ⟨gR, 0, none⟩) 4 d1) := SN.box.cell 1
          have r2 : (w10).frozen? ⟨w.heap.size, 0, none⟩ = false := SN.res.frozen 0
          have r3 : (w10).frozen? ⟨w.heap.size, 1, none⟩ = false := SN.res.frozen 1
          have r4 : (w10).cell? ⟨w.heap.size, 0, none⟩ = some (.slice none 0 0) := SN.res.cell 0
          have r5 : (w10).cell? ⟨w.heap.size, 1, none⟩ = some (.slice none 0 0) := SN.res.cell 1
          have r6 : (((w10).setCell ⟨w.heap.size, 0, none⟩ (.slice A9 (nn + 1) c9)).setCell ⟨w.heap.size, 1, none⟩ (.slice (some ⟨gR, 0, none⟩) 4 d1)).cell? ⟨w.heap.size, 0, none⟩ = some (.slice A9 (nn + 1) c9) := ((SN.res.put 0 (.slice A9 (nn + 1) c9)).put 1 (.slice (some ⟨gR, 0, none⟩) 4 d1)).cell 0
          have r7 : (((w10).setCell ⟨w.heap.size, 0, none⟩ (.slice A9 (nn + 1) c9)).setCell ⟨w.heap.size, 1, none⟩ (.slice (some ⟨gR, 0, none⟩) 4 d1)).cell? ⟨w.heap.size, 1, none⟩ = some (.slice (some ⟨gR, 0, none⟩) 4 d1) := ((SN.res.put 0 (.slice A9 (nn + 1) c9)).put 1 (.slice (some ⟨gR, 0, none⟩) 4 d1)).cell 1
          have FI := Lib.hid (SN.fin (.slice A9 (nn + 1) c9) (.slice (some ⟨gR, 0, none⟩) 4 d1))
          have CAP := Lib.hid SN.own.caps.2.2
          have SM2 := Lib.hid hdv
          clear SN hdv SR o9 G9 s9 gb1 rd1 e0 e1 e2 e3 e4 e5 e6 e7 e8 e9 e10 I0 I1 I2 I3 I4 I5 I6 I7 I8 x0 x1 fb0 fb1
          go_wp2_with fail
          exact bodyPost_ret (v := .agg #[.slice A9 (nn + 1) c9, .slice (some ⟨gR, 0, none⟩) 4 d1]) (by simp [results, Try.results37, go_sem, *]) rfl ⟨A9, nn + 1, c9, some ⟨gR, 0, none⟩, 4, d1, ⟨h1.cs ++ [⟨true, q, []⟩], h1.rt⟩, rfl, CAP.out.1, CAP.out.2, FI.out.1, fun h => absurd h hn1, SM2.out, FI.out.2.1.more (by omega), FI.out.2.2⟩
end Go.Proofs.Ytakdjiojahlnmaa

namespace Go.Proofs.Ytakdjiojahlnmaa
open Go.RowKit
set_option maxRecDepth 100000
theorem Hps.okLz.next {l : Lz} (h : Hps.okLz l) : Hps.okLz (Hps.takeLz l).1 := by
  rcases Hps.take_cases h with ⟨_, h1, _⟩ | ⟨k, e, _, _, _, h1, _⟩
  · exact h1
  · rw [e]
    exact h1
/-- while a lazy heap is drawn: it lies in the box b, the reader in gr -/
structure LzSt (w wr : World) (gr N b : Nat) (vc vr vm : Value) (h : Hp) (ms : List Bool) (i : Int) : Prop where
  own : OwnLz wr (w.heap.size + 1) vc vr vm h ms
  box : Rw wr b 30 #[vc, vr, vm, .int .i64 i]
  res : Rw wr w.heap.size 30 #[.slice none 0 0, .slice none 0 0, .slice none 0 0, .int .i64 0]
  rd : Rd wr gr N
  grown : w.grownBy wr (some gr)
  lo : w.heap.size + 1 ≤ b
  old : gr < w.heap.size
def DrewLz (w : World) (gr N : Nat) (e : Ending) (w' : World) : Prop :=
  ∃ (vc vr vm : Value) (h : Hp) (ms : List Bool) (i : Int), e = .returned (.agg #[vc, vr, vm, .int .i64 i]) ∧ OwnLz w' w.heap.size vc vr vm h ms ∧ SmallH h ∧ ms.length ≤ 41 ∧ Rd w' gr (N + 2000) ∧ w.grownBy w' (some gr)
section
variable {w wr w1 w5 : World} {gr N N' b g k : Nat} {vc vr vm vc' vr' vm' : Value} {h h' : Hp} {ms ms' : List Bool} {i : Int}
theorem LzSt.more (S : LzSt w wr gr N b vc vr vm h ms i) (hN : N ≤ N') : LzSt w wr gr N' b vc vr vm h ms i := ⟨S.own, S.box, S.res, S.rd.more hN, S.grown, S.lo, S.old⟩
theorem LzSt.pick (S : LzSt w wr gr N b vc vr vm h ms i) (hr : Rd w1 gr N') (hg : wr.grownBy w1 (some gr)) : LzSt w w1 gr N' b vc vr vm h ms i := by
  have h1 := S.lo
  have h2 := S.old
  obtain ⟨rvs, o⟩ := S.own
  exact ⟨⟨rvs, o.far hg (o.apart_below (by omega))⟩, S.box.far hg (fun e => by have := Option.some.inj e; omega), S.res.far hg (fun e => by have := Option.some.inj e; omega), hr, World.grownBy.trans S.grown hg, h1, h2⟩
theorem LzSt.up (S : LzSt w wr gr N b vc vr vm h ms i) (hb : Below wr.heap.size wr w1) : LzSt w w1 gr N b vc vr vm h ms i :=
  ⟨S.own.below hb (Nat.le_refl _), S.box.keep hb S.box.lt, S.res.keep hb S.res.lt, S.rd.below hb S.rd.lt, grown_below S.grown (hb.mono S.grown.size), S.lo, S.old⟩
theorem LzSt.next (S : LzSt w wr gr N b vc vr vm h ms i) (B : Below wr.heap.size wr w5) (ho : OwnLz w5 wr.heap.size vc' vr' vm' h' ms') (j : Int) :
    LzSt w ((((w5.setCell ⟨b, 0, none⟩ vc').setCell ⟨b, 1, none⟩ vr').setCell ⟨b, 2, none⟩ vm').setCell ⟨b, 3, none⟩ (.int .i64 j)) gr N b vc' vr' vm' h' ms' j := by
  have S5 := S.up B
  have hlt := S.box.lt
  have hlo := S.lo
  have hold := S.old
  obtain ⟨rvs, o⟩ := ho
  have ap := o.apart_below hlt
  have hsz := S.grown.size
  have hB : Below w.heap.size w5 ((((w5.setCell ⟨b, 0, none⟩ vc').setCell ⟨b, 1, none⟩ vr').setCell ⟨b, 2, none⟩ vm').setCell ⟨b, 3, none⟩ (.int .i64 j)) := ((((Below.refl w.heap.size w5).setCell (p := ⟨b, 0, none⟩) (by show w.heap.size ≤ b; omega) _).setCell (p := ⟨b, 1, none⟩) (by show w.heap.size ≤ b; omega) _).setCell (p := ⟨b, 2, none⟩) (by show w.heap.size ≤ b; omega) _).setCell (p := ⟨b, 3, none⟩) (by show w.heap.size ≤ b; omega) _
  have hne : w.heap.size ≠ b := by omega
  exact ⟨⟨rvs, ((((o.put ap 0 vc').put ap 1 vr').put ap 2 vm').put ap 3 _).base (by omega)⟩, by simpa using (((S5.box.put 0 vc').put 1 vr').put 2 vm').put 3 (.int .i64 j), (((S5.res.other hne _).other hne _).other hne _).other hne _, S5.rd.below hB hold, grown_below S5.grown hB, hlo, hold⟩
/-- the number changes -/
theorem LzSt.at_ (S : LzSt w wr gr N b vc vr vm h ms i) (j : Int) : LzSt w (wr.setCell ⟨b, 3, none⟩ (.int .i64 j)) gr N b vc vr vm h ms j := by
  have hlo := S.lo
  have hold := S.old
  obtain ⟨rvs, o⟩ := S.own
  have hB : Below w.heap.size wr (wr.setCell ⟨b, 3, none⟩ (.int .i64 j)) := (Below.refl w.heap.size wr).setCell (p := ⟨b, 3, none⟩) (by show w.heap.size ≤ b; omega) _
  exact ⟨⟨rvs, o.put (o.apart_lazy S.box) 3 _⟩, by simpa using S.box.put 3 (.int .i64 j), S.res.other (by omega) _, S.rd.below hB hold, grown_below S.grown hB, hlo, hold⟩
/-- the marks become longer -/
theorem LzSt.app (S : LzSt w wr gr N b vc vr vm h ms i) (o1 : OwnO w1 (w.heap.size + 1) vm' ms') (g1 : wr.grownBy w1 vm.ownBlock) (s1 : vm'.ownBlock = vm.ownBlock ∨ vm'.ownBlock = some wr.heap.size) : LzSt w (w1.setCell ⟨b, 2, none⟩ vm') gr N b vc vr vm' h ms' i := by
  have hlo := S.lo
  have hold := S.old
  have ow := S.own.app o1 g1 s1
  obtain ⟨rvs0, o0⟩ := S.own
  have ap0 := o0.apart_lazy S.box
  have hvb : ∀ k, vm.ownBlock = some k → w.heap.size + 1 ≤ k := fun k hk => (World.ownsRow.lt o0.mks k hk).1
  have hB0 : Below w.heap.size wr w1 := (Below.refl w.heap.size wr).grown g1 (by have := S.grown.size; omega) (fun k hk => by have := hvb k hk; omega)
  have hbx : Rw w1 b 30 #[vc, vr, vm, .int .i64 i] := S.box.far g1 (fun e => by
    rcases ap0 vm (by simp) with e1 | e1
    · rw [e1] at e; cases e
    · exact e1 e.symm)
  have hB : Below w.heap.size w1 (w1.setCell ⟨b, 2, none⟩ vm') := (Below.refl w.heap.size w1).setCell (p := ⟨b, 2, none⟩) (by show w.heap.size ≤ b; omega) _
  obtain ⟨rvs, o⟩ := ow
  exact ⟨⟨rvs, o.put (o.apart_lazy hbx) 2 _⟩, by simpa using hbx.put 2 vm', (S.res.far g1 (fun e => by have := hvb _ e.symm; omega)).other (by omega) _, (S.rd.below hB0 hold).below hB hold, grown_below (grown_below S.grown hB0) hB, hlo, hold⟩
theorem LzSt.boxfar (S : LzSt w wr gr N b vc vr vm h ms i) (g1 : wr.grownBy w1 vm.ownBlock) : Rw w1 b 30 #[vc, vr, vm, .int .i64 i] := by
  obtain ⟨rvs0, o0⟩ := S.own
  exact S.box.far g1 (fun e => by
    rcases o0.apart_lazy S.box vm (by simp) with e1 | e1
    · rw [e1] at e; cases e
    · exact e1 e.symm)
/-- a mark changes -/
theorem LzSt.flip {K : Nat} {c : Nat} (S : LzSt w wr gr N b vc vr (.slice (some ⟨g, 0, none⟩) K c) h ms i) (hn : ms.length = K) (t : Bool) : LzSt w (wr.setCell ⟨g, k, none⟩ (.bool t)) gr N b vc vr (.slice (some ⟨g, 0, none⟩) K c) h (ms.set k t) i := by
  have hlo := S.lo
  have hold := S.old
  obtain ⟨rvs, o⟩ := S.own
  have hg := (World.ownsRow.lt o.mks g rfl)
  have hne : b ≠ g := fun e => by
    rcases o.apart_lazy S.box (.slice (some ⟨g, 0, none⟩) K c) (by simp) with e1 | e1
    · cases e1
    · exact e1 (by rw [e]; rfl)
  have hB : Below w.heap.size wr (wr.setCell ⟨g, k, none⟩ (.bool t)) := (Below.refl w.heap.size wr).setCell (p := ⟨g, k, none⟩) (by show w.heap.size ≤ g; omega) _
  exact ⟨⟨rvs, o.heap.far (put_any wr g k _) (fun u hu => o.sep u hu), o.mks.put' hn t, o.sep⟩, S.box.other hne _, S.res.other (by omega) _, S.rd.below hB hold, grown_below S.grown hB, hlo, hold⟩
/-- the end -/
theorem LzSt.out (S : LzSt w wr gr N b vc vr vm h ms i) (hN : N ≤ N' + 2000) (hs : SmallH h) (hl : ms.length ≤ 41) : DrewLz w gr N' (.returned (.agg #[vc, vr, vm, .int .i64 i])) ((((wr.setCell ⟨w.heap.size, 0, none⟩ vc).setCell ⟨w.heap.size, 1, none⟩ vr).setCell ⟨w.heap.size, 2, none⟩ vm).setCell ⟨w.heap.size, 3, none⟩ (.int .i64 i)) := by
  have hlo := S.lo
  have hold := S.old
  obtain ⟨rvs, o⟩ := S.own
  have ap := o.apart_below (g := w.heap.size) (by omega)
  have hB : Below w.heap.size wr ((((wr.setCell ⟨w.heap.size, 0, none⟩ vc).setCell ⟨w.heap.size, 1, none⟩ vr).setCell ⟨w.heap.size, 2, none⟩ vm).setCell ⟨w.heap.size, 3, none⟩ (.int .i64 i)) := ((((Below.refl w.heap.size wr).setCell (p := ⟨w.heap.size, 0, none⟩) (Nat.le_refl _) _).setCell (p := ⟨w.heap.size, 1, none⟩) (Nat.le_refl _) _).setCell (p := ⟨w.heap.size, 2, none⟩) (Nat.le_refl _) _).setCell (p := ⟨w.heap.size, 3, none⟩) (Nat.le_refl _) _
  exact ⟨vc, vr, vm, h, ms, i, rfl, ⟨rvs, ((((o.put ap 0 vc).put ap 1 vr).put ap 2 vm).put ap 3 _).base (by omega)⟩, hs, hl, (S.rd.below hB hold).more hN, grown_below S.grown hB⟩
end
set_option maxHeartbeats 16000000 in
theorem l20Lazy_any (gr N : Nat) (n : Int) (w : World) (h : Rd w gr N) (hN : N ≤ 5000) (hn1 : 1 ≤ n) (hn : n ≤ 1000) :
    Calls Try.prog 55 #[.pointer (some ⟨gr, 0, none⟩), .int .i64 n] w (DrewLz w gr N) := by
  have hgl := h.lt
  have h0 : Rd (w.alloc (.cells #[.slice none 0 0, .slice none 0 0, .slice none 0 0, .int .i64 0] 30)) gr N := h.below ((Below.refl w.heap.size w).alloc (Nat.le_refl _) _) hgl
  have r0 := Rw.new w 30 #[.slice none 0 0, .slice none 0 0, .slice none 0 0, .int .i64 0]
  have g0 : w.grownBy (w.alloc (.cells #[.slice none 0 0, .slice none 0 0, .slice none 0 0, .int .i64 0] 30)) (some gr) := World.grownBy_alloc _ _ _
  have z0 : w.heap.size + 1 = (w.alloc (.cells #[.slice none 0 0, .slice none 0 0, .slice none 0 0, .int .i64 0] 30)).heap.size := by simp
  go_enter Try.func55, Try.ntmps55
  go_upto_region 1 with fail
  generalize w.alloc (.cells #[.slice none 0 0, .slice none 0 0, .slice none 0 0, .int .i64 0] 30) = w0 at h0 r0 g0 z0 ⊢
  go_wp2_with fail
  refine (l20Heap_any gr N 0 _ h0 (by omega) (by omega) (by omega)).mono ?_
  rintro e w1 ⟨A, nn, c, R, m, d, hh, rfl, hc, hd, HFx, hv0, hsm, hr1, g1⟩
  have hv := hv0 rfl
  have HS1 := HFx w1 (Nat.le_refl _) (fun _ _ _ => rfl)
  have hnn := HS1.cells.1
  have hmm := HS1.roots.1
  have r1 := r0.far g1 (fun e => by have := Option.some.inj e; omega)
  have G1 := World.grownBy.trans g0 g1
  have hs1 := g1.size
  have hn41 : nn ≤ 41 := by have := hsm.1; omega
  have hm4 : m ≤ 4 := by have := hsm.2.1; omega
  clear HFx hv0 h0 r0 g0 g1 hsm hnn hmm
  go_wp2_with fail
  refine (mLazyStart_any A R nn c m d hh w1 HS1 (by omega) (by omega)).mono ?_
  rintro e w2 ⟨vc, vr, vm, rfl, ho, b2⟩
  have OK0 := Lib.hid (Hps.start_ok hv)
  obtain ⟨l0, hl0⟩ : ∃ l0, Hps.startLz hh = l0 := ⟨_, rfl⟩
  rw [hl0] at ho OK0 ⊢
  clear hl0 hv
  obtain ⟨A1, n1, c1, R1, m1, d1, D1, q1, e1, rfl, rfl, rfl⟩ := ho.slices
  have B2 : Below w1.heap.size w1 (w2.alloc (.cells #[.slice A1 n1 c1, .slice R1 m1 d1, .slice D1 q1 e1, .int .i64 l0.i] 30)) := b2.alloc b2.size _
  have r2 := (r1.keep b2 r1.lt).alloc (.cells #[.slice A1 n1 c1, .slice R1 m1 d1, .slice D1 q1 e1, .int .i64 l0.i] 30)
  have q2 := Rw.new w2 30 #[.slice A1 n1 c1, .slice R1 m1 d1, .slice D1 q1 e1, .int .i64 l0.i]
  have o2 := ho.below ((Below.refl w2.heap.size w2).alloc (Nat.le_refl _) (.cells #[.slice A1 n1 c1, .slice R1 m1 d1, .slice D1 q1 e1, .int .i64 l0.i] 30)) (Nat.le_refl _)
  have hs2 := b2.size
  have S0 : LzSt w (w2.alloc (.cells #[.slice A1 n1 c1, .slice R1 m1 d1, .slice D1 q1 e1, .int .i64 l0.i] 30)) gr (N + 700) w2.heap.size _ _ _ l0.s l0.ms l0.i :=
    ⟨o2.base (by omega), q2, r2, hr1.below B2 (by omega), grown_below G1 (B2.mono (by omega)), by omega, hgl⟩
  clear ho o2 r2 q2 B2 r1 G1 HS1 hr1 h b2
  go_upto_region 2 with fail
  generalize w2.alloc (.cells #[.slice A1 n1 c1, .slice R1 m1 d1, .slice D1 q1 e1, .int .i64 l0.i] 30) = w3 at S0 ⊢
  generalize w2.heap.size = b at S0 ⊢
  go_wp2_with fail
  refine (pick_any gr (N + 700) 5 _ S0.rd (by omega) (by omega)).mono ?_
  rintro e w4 ⟨k0, rfl, ka, kb, hr4, g4⟩
  have kb' : k0 < 5 := by omega
  have S1 := S0.pick hr4 g4
  obtain ⟨k, rfl⟩ := Int.eq_ofNat_of_zero_le ka
  have hk5 : k ≤ 5 := by omega
  have HX := Lib.hid (show ∃ (l : Lz) (vc vr vm : Value), Hps.okLz l ∧ LzSt w w4 gr (N + 701) b vc vr vm l.s l.ms l.i from ⟨l0, _, _, _, OK0.out, S1⟩)
  clear S0 S1 hr4 g4 ka kb kb' OK0
  go_wp2_with fail
  go_loopw [6] (fun v wr => ∃ k : Nat, k ≤ 5 ∧ v = .int .i64 k ∧ Hid (∃ (l : Lz) (vc vr vm : Value), Hps.okLz l ∧ LzSt w wr gr (N + 701) b vc vr vm l.s l.ms l.i)) (fun v _ => (intOf v).toNat)
  case atStart => exact ⟨k, hk5, rfl, HX⟩
  case round =>
    clear HX hk5
    obtain ⟨k, hk5, rfl, HX⟩ := hrel
    obtain ⟨l, vc, vr, vm, ok, S⟩ := HX.out
    clear HX
    have h40 := (Hps.valid_small ok.1).1
    have h4 : l.s.rt.length ≤ 4 := by rw [(Hps.valid_small ok.1).2.1]; omega
    have hml : l.ms.length = l.s.cs.length := ok.2.1
    have hms : l.ms.length ≤ 40 := by omega
    have HML := Lib.hid hml
    clear hml
    have OK := Lib.hid ok
    clear ok
    by_cases hk0 : 0 < k
    · have hk0' : (0 : Int) < k := by omega
      obtain ⟨rvs, o⟩ := S.own
      obtain ⟨A2, c2, R2, d2, D2, e2, rfl, rfl, rfl, hc2, hd2⟩ := o.slices
      have hr := Lib.hid o.heap.reads
      have hkk := Lib.hid o.mks.reads
      have OK2 := Lib.hid OK.out.next
      obtain ⟨i, hi⟩ : ∃ i, l.i = i := ⟨_, rfl⟩
      obtain ⟨n2, hn2⟩ : ∃ n2, l.s.cs.length = n2 := ⟨_, rfl⟩
      obtain ⟨m2, hm2⟩ : ∃ m2, l.s.rt.length = m2 := ⟨_, rfl⟩
      obtain ⟨q2, hq2⟩ : ∃ q2, l.ms.length = q2 := ⟨_, rfl⟩
      have HLE := Lib.hid (show (⟨l.s, l.ms, i⟩ : Lz) = l by rw [← hi])
      rw [hn2] at S hr h40 hc2
      rw [hm2] at S hr h4 hd2
      rw [hq2] at S hkk hms
      rw [hi] at S
      have x0 : wr.cell? ⟨b, 0, none⟩ = some (.slice A2 n2 c2) := S.box.cell 0
      have x1 : wr.cell? ⟨b, 1, none⟩ = some (.slice R2 m2 d2) := S.box.cell 1
      have x2 : wr.cell? ⟨b, 2, none⟩ = some (.slice D2 q2 e2) := S.box.cell 2
      have x3 : wr.cell? ⟨b, 3, none⟩ = some (.int .i64 i) := S.box.cell 3
      clear o hi hn2 hm2 hq2 hc2 hd2
      go_wp2_with fail
      refine (mLazyTake_any A2 R2 D2 n2 c2 m2 d2 q2 e2 i l.s l.ms wr hr.out hkk.out (by omega) (by omega) (by omega)).mono ?_
      rw [HLE.out]
      rintro e w5 ⟨vc, vr, vm, rfl, ho, b5⟩
      obtain ⟨l2, hl2⟩ : ∃ l2, (Hps.takeLz l).1 = l2 := ⟨_, rfl⟩
      obtain ⟨z2, hz2⟩ : ∃ z2, (Hps.takeLz l).2 = z2 := ⟨_, rfl⟩
      rw [hl2] at OK2 ho ⊢
      rw [hz2]
      clear hl2 hz2 x0 x1 x2 x3 hr hkk HLE
      have S5 := S.up b5
      have S6 := S.next b5 ho l2.i
      obtain ⟨A3, n3, c3, R3, m3, d3, D3, q3, e3, rfl, rfl, rfl⟩ := ho.slices
      have f0 : w5.frozen? ⟨b, 0, none⟩ = false := S5.box.frozen 0
      have f1 : w5.frozen? ⟨b, 1, none⟩ = false := S5.box.frozen 1
      have f2 : w5.frozen? ⟨b, 2, none⟩ = false := S5.box.frozen 2
      have f3 : w5.frozen? ⟨b, 3, none⟩ = false := S5.box.frozen 3
      have y0 : w5.cell? ⟨b, 0, none⟩ = some (.slice A2 n2 c2) := S5.box.cell 0
      have y1 : w5.cell? ⟨b, 1, none⟩ = some (.slice R2 m2 d2) := S5.box.cell 1
      have y2 : w5.cell? ⟨b, 2, none⟩ = some (.slice D2 q2 e2) := S5.box.cell 2
      have y3 : w5.cell? ⟨b, 3, none⟩ = some (.int .i64 i) := S5.box.cell 3
      have HX := Lib.hid (show ∃ (l : Lz) (vc vr vm : Value), Hps.okLz l ∧ LzSt w ((((w5.setCell ⟨b, 0, none⟩ (.slice A3 n3 c3)).setCell ⟨b, 1, none⟩ (.slice R3 m3 d3)).setCell ⟨b, 2, none⟩ (.slice D3 q3 e3)).setCell ⟨b, 3, none⟩ (.int .i64 l2.i)) gr (N + 701) b vc vr vm l.s l.ms l.i from ⟨l2, _, _, _, OK2.out, S6⟩)
      clear ho S5 S6 b5 OK2 S OK HML
      go_wp2_with fail
      go_roundw
      case rel => exact ⟨k - 1, by omega, by go_num, HX⟩
      case measure => simp [intOf]; omega
    · obtain rfl : k = 0 := by omega
      obtain ⟨rvs, o⟩ := S.own
      obtain ⟨A2, c2, R2, d2, D2, e2, rfl, rfl, rfl, hc2, hd2⟩ := o.slices
      have HSM := Lib.hid (small_valid OK.out.1)
      obtain ⟨i, hi⟩ : ∃ i, l.i = i := ⟨_, rfl⟩
      obtain ⟨n2, hn2⟩ : ∃ n2, l.s.cs.length = n2 := ⟨_, rfl⟩
      obtain ⟨m2, hm2⟩ : ∃ m2, l.s.rt.length = m2 := ⟨_, rfl⟩
      obtain ⟨q2, hq2⟩ : ∃ q2, l.ms.length = q2 := ⟨_, rfl⟩
      have HQ2 := Lib.hid hq2
      rw [hn2] at S h40
      rw [hm2] at S h4
      rw [hq2] at S hms
      rw [hi] at S
      clear o hi hn2 hm2 hq2 hc2 hd2 OK HML h4
      go_wp2_with fail
      refine (odd_any gr (N + 701) n _ S.rd (by omega) (by omega) (by omega)).mono ?_
      rintro e w5 ⟨bo, rfl, hr5, g5⟩
      have S5 := S.pick hr5 g5
      clear S hr5 g5
      cases bo
      · have S6 := S5.more (N' := N + 703) (by omega)
        have b0 : w5.cell? ⟨b, 0, none⟩ = some (.slice A2 n2 c2) := S6.box.cell 0
        have b1 : w5.cell? ⟨b, 1, none⟩ = some (.slice R2 m2 d2) := S6.box.cell 1
        have b2 : w5.cell? ⟨b, 2, none⟩ = some (.slice D2 q2 e2) := S6.box.cell 2
        have b3 : w5.cell? ⟨b, 3, none⟩ = some (.int .i64 i) := S6.box.cell 3
        have fr0 : w5.frozen? ⟨w.heap.size, 0, none⟩ = false := S6.res.frozen 0
        have fr1 : w5.frozen? ⟨w.heap.size, 1, none⟩ = false := S6.res.frozen 1
        have fr2 : w5.frozen? ⟨w.heap.size, 2, none⟩ = false := S6.res.frozen 2
        have fr3 : w5.frozen? ⟨w.heap.size, 3, none⟩ = false := S6.res.frozen 3
        have rc0 : w5.cell? ⟨w.heap.size, 0, none⟩ = some (.slice none 0 0) := S6.res.cell 0
        have rc1 : w5.cell? ⟨w.heap.size, 1, none⟩ = some (.slice none 0 0) := S6.res.cell 1
        have rc2 : w5.cell? ⟨w.heap.size, 2, none⟩ = some (.slice none 0 0) := S6.res.cell 2
        have rc3 : w5.cell? ⟨w.heap.size, 3, none⟩ = some (.int .i64 0) := S6.res.cell 3
        have rs0 : ((((w5.setCell ⟨w.heap.size, 0, none⟩ (.slice A2 n2 c2)).setCell ⟨w.heap.size, 1, none⟩ (.slice R2 m2 d2)).setCell ⟨w.heap.size, 2, none⟩ (.slice D2 q2 e2)).setCell ⟨w.heap.size, 3, none⟩ (.int .i64 i)).cell? ⟨w.heap.size, 0, none⟩ = some (.slice A2 n2 c2) := ((((S6.res.put 0 (.slice A2 n2 c2)).put 1 (.slice R2 m2 d2)).put 2 (.slice D2 q2 e2)).put 3 (.int .i64 i)).cell 0
        have rs1 : ((((w5.setCell ⟨w.heap.size, 0, none⟩ (.slice A2 n2 c2)).setCell ⟨w.heap.size, 1, none⟩ (.slice R2 m2 d2)).setCell ⟨w.heap.size, 2, none⟩ (.slice D2 q2 e2)).setCell ⟨w.heap.size, 3, none⟩ (.int .i64 i)).cell? ⟨w.heap.size, 1, none⟩ = some (.slice R2 m2 d2) := ((((S6.res.put 0 (.slice A2 n2 c2)).put 1 (.slice R2 m2 d2)).put 2 (.slice D2 q2 e2)).put 3 (.int .i64 i)).cell 1
        have rs2 : ((((w5.setCell ⟨w.heap.size, 0, none⟩ (.slice A2 n2 c2)).setCell ⟨w.heap.size, 1, none⟩ (.slice R2 m2 d2)).setCell ⟨w.heap.size, 2, none⟩ (.slice D2 q2 e2)).setCell ⟨w.heap.size, 3, none⟩ (.int .i64 i)).cell? ⟨w.heap.size, 2, none⟩ = some (.slice D2 q2 e2) := ((((S6.res.put 0 (.slice A2 n2 c2)).put 1 (.slice R2 m2 d2)).put 2 (.slice D2 q2 e2)).put 3 (.int .i64 i)).cell 2
        have rs3 : ((((w5.setCell ⟨w.heap.size, 0, none⟩ (.slice A2 n2 c2)).setCell ⟨w.heap.size, 1, none⟩ (.slice R2 m2 d2)).setCell ⟨w.heap.size, 2, none⟩ (.slice D2 q2 e2)).setCell ⟨w.heap.size, 3, none⟩ (.int .i64 i)).cell? ⟨w.heap.size, 3, none⟩ = some (.int .i64 i) := ((((S6.res.put 0 (.slice A2 n2 c2)).put 1 (.slice R2 m2 d2)).put 2 (.slice D2 q2 e2)).put 3 (.int .i64 i)).cell 3
        have DD := Lib.hid (S6.out (N' := N) (by omega) HSM.out (by rw [HQ2.out]; omega))
        clear S6
        go_wp2_with fail
        exact bodyPost_ret (v := .agg #[.slice A2 n2 c2, .slice R2 m2 d2, .slice D2 q2 e2, .int .i64 i]) (by simp [results, Try.results55, go_sem, *]) rfl DD.out
      go_wp2_with fail
      refine (pick_any gr (N + 702) 3 _ S5.rd (by omega) (by omega)).mono ?_
      rintro e w6 ⟨k3, rfl, ka, kb, hr6, g6⟩
      have S6 := S5.pick hr6 g6
      clear S5 hr6 g6
      have hk3 : k3 = 0 ∨ k3 = 1 ∨ k3 = 2 := by omega
      clear ka kb
      obtain rfl | rfl | rfl := hk3
      case inl =>
        go_upto_region 12 with fail
        refine wp_region_inv (by kernel_rfl) (by kernel_rfl) (fun L ac ww => ∃ t48 t49 t50 t51 t52 t53 t54 t55 t56 t57 : Value, ac = { tmps := #[Value.pointer (some { block := gr, off := 0 }), Value.int IntKind.i64 n, undef, undef, Value.pointer (some { block := w.heap.size, off := 0 }), Value.pointer (some { block := b, off := 0 }), Value.int IntKind.i64 0, undef, Value.pointer (some { block := gr, off := 0 }), heapV A nn c R m d, Value.agg #[Value.slice A1 n1 c1, Value.slice R1 m1 d1, Value.slice D1 q1 e1, Value.int IntKind.i64 l0.i], Value.pointer (some { block := gr, off := 0 }), Value.int IntKind.i64 ↑k, Value.int IntKind.i64 0, Value.bool false, u15, u16, u17, u18, u19, u20, u21, Value.pointer (some { block := gr, off := 0 }), Value.int IntKind.i64 n, Value.bool true, Value.pointer (some { block := gr, off := 0 }), Value.int IntKind.i64 0, undef, undef, undef, undef, undef, undef, undef, undef, undef, undef, undef, undef, undef, undef, undef, undef, undef, undef, undef, Value.bool true, Value.bool true, t48, t49, t50, t51, t52, t53, t54, t55, t56, t57, undef, undef, undef, undef, undef, undef, undef, undef], defers := [] } ∧ (L 10 = false → LzSt w ww gr (if L 6 = true then N + 704 else N + 703) b (.slice A2 n2 c2) (.slice R2 m2 d2) (.slice D2 q2 e2) l.s l.ms i) ∧ (L 0 = true → t48 = .pointer (some ⟨b, 2, none⟩)) ∧ (L 1 = true → t49 = .slice D2 q2 e2) ∧ (L 2 = true → t50 = .int .i64 (q2 : Nat)) ∧ (L 3 = true → t51 = .int .i64 ((q2 : Int) + 1)) ∧ (L 4 = true → ∃ gt : Nat, t52 = .slice (some ⟨gt, 0, none⟩) 2 2 ∧ (L 10 = false → Rw ww gt 3 #[.int .i64 (-1), .int .i64 ((q2 : Int) + 1)]) ∧ gr < gt) ∧ (L 5 = true → t53 = .pointer (some ⟨gr, 0, none⟩)) ∧ (L 6 = true → ∃ kk : Nat, t54 = .int .i64 kk ∧ kk < 2) ∧ (L 7 = true → ∃ gt kk : Nat, t55 = .pointer (some ⟨gt, kk, none⟩) ∧ kk < 2 ∧ gr < gt ∧ (L 10 = false → Rw ww gt 3 #[.int .i64 (-1), .int .i64 ((q2 : Int) + 1)])) ∧ (L 8 = true → ∃ y : Int, t56 = .int .i64 y) ∧ (L 9 = true → t57 = .pointer (some ⟨b, 3, none⟩)) ∧ (L 10 = true → (∀ q, q < 10 → L q = true) ∧ ∃ y : Int, LzSt w ww gr (N + 704) b (.slice A2 n2 c2) (.slice R2 m2 d2) (.slice D2 q2 e2) l.s l.ms y)) ?h0 ?hstep ?hdone
        case h0 => exact ⟨_, _, _, _, _, _, _, _, _, _, rfl, fun _ => by rw [if_neg Bool.false_ne_true]; exact S6.up (Below.refl _ _).drew, (fun h => absurd h Bool.false_ne_true), (fun h => absurd h Bool.false_ne_true), (fun h => absurd h Bool.false_ne_true), (fun h => absurd h Bool.false_ne_true), (fun h => absurd h Bool.false_ne_true), (fun h => absurd h Bool.false_ne_true), (fun h => absurd h Bool.false_ne_true), (fun h => absurd h Bool.false_ne_true), (fun h => absurd h Bool.false_ne_true), (fun h => absurd h Bool.false_ne_true), (fun h => absurd h Bool.false_ne_true)⟩
        case hstep =>
          rintro L ac ww i o ho hL hd ⟨t48, t49, t50, t51, t52, t53, t54, t55, t56, t57, rfl, I0, f0, f1, f2, f3, f4, f5, f6, f7, f8, f9, f10⟩
          have hi : i < 11 := (Array.getElem?_eq_some_iff.1 ho).1
          obtain rfl | rfl | rfl | rfl | rfl | rfl | rfl | rfl | rfl | rfl | rfl : i = 0 ∨ i = 1 ∨ i = 2 ∨ i = 3 ∨ i = 4 ∨ i = 5 ∨ i = 6 ∨ i = 7 ∨ i = 8 ∨ i = 9 ∨ i = 10 := by omega
          · obtain rfl := Option.some.inj ho
            have hLS : L 10 = false := by
              cases e : L 10
              · rfl
              · exact absurd ((f10 e).1 0 (by decide)) (by rw [hL]; decide)
            have S := I0 hLS
            refine wpOp_step rfl (fun K' hK => ?_)
            go_simp
            refine hK _ _ ?_
            exact ⟨_, _, _, _, _, _, _, _, _, _, rfl, (fun _ => by
              rw [upd_other (by decide)]
              exact S), (fun _ => rfl), (kp f1), (kp f2), (kp f3), (fun h => by
              obtain ⟨gt, e, r, hgt⟩ := f4 (upd_ne h (by decide))
              exact ⟨gt, e, fun h6 => r (by rw [upd_other (by decide)] at h6; exact h6), hgt⟩), (kp f5), (fun h => f6 (upd_ne h (by decide))), (fun h => by
              obtain ⟨gt, kk, e, hkk, hgt, r⟩ := f7 (upd_ne h (by decide))
              exact ⟨gt, kk, e, hkk, hgt, fun h6 => r (by rw [upd_other (by decide)] at h6; exact h6)⟩), (fun h => f8 (upd_ne h (by decide))), (kp f9), (fun h => absurd hLS (by rw [upd_ne h (by decide)]; decide))⟩
          · obtain rfl := Option.some.inj ho
            have g0 := f0 (hd ⟨0, .data⟩ (by simp) rfl)
            subst g0
            have hLS : L 10 = false := by
              cases e : L 10
              · rfl
              · exact absurd ((f10 e).1 1 (by decide)) (by rw [hL]; decide)
            have S := I0 hLS
            have z2 : ww.cell? ⟨b, 2, none⟩ = some (.slice D2 q2 e2) := S.box.cell 2
            refine wpOp_step rfl (fun K' hK => ?_)
            go_simp
            refine hK _ _ ?_
            exact ⟨_, _, _, _, _, _, _, _, _, _, rfl, (fun _ => by
              rw [upd_other (by decide)]
              exact S), (kp f0), (fun _ => rfl), (kp f2), (kp f3), (fun h => by
              obtain ⟨gt, e, r, hgt⟩ := f4 (upd_ne h (by decide))
              exact ⟨gt, e, fun h6 => r (by rw [upd_other (by decide)] at h6; exact h6), hgt⟩), (kp f5), (fun h => f6 (upd_ne h (by decide))), (fun h => by
              obtain ⟨gt, kk, e, hkk, hgt, r⟩ := f7 (upd_ne h (by decide))
              exact ⟨gt, kk, e, hkk, hgt, fun h6 => r (by rw [upd_other (by decide)] at h6; exact h6)⟩), (fun h => f8 (upd_ne h (by decide))), (kp f9), (fun h => absurd hLS (by rw [upd_ne h (by decide)]; decide))⟩
          · obtain rfl := Option.some.inj ho
            have g1 := f1 (hd ⟨1, .data⟩ (by simp) rfl)
            subst g1
            have hLS : L 10 = false := by
              cases e : L 10
              · rfl
              · exact absurd ((f10 e).1 2 (by decide)) (by rw [hL]; decide)
            have S := I0 hLS
            refine wpOp_step rfl (fun K' hK => ?_)
            go_simp
            refine hK _ _ ?_
            exact ⟨_, _, _, _, _, _, _, _, _, _, rfl, (fun _ => by
              rw [upd_other (by decide)]
              exact S), (kp f0), (kp f1), (fun _ => rfl), (kp f3), (fun h => by
              obtain ⟨gt, e, r, hgt⟩ := f4 (upd_ne h (by decide))
              exact ⟨gt, e, fun h6 => r (by rw [upd_other (by decide)] at h6; exact h6), hgt⟩), (kp f5), (fun h => f6 (upd_ne h (by decide))), (fun h => by
              obtain ⟨gt, kk, e, hkk, hgt, r⟩ := f7 (upd_ne h (by decide))
              exact ⟨gt, kk, e, hkk, hgt, fun h6 => r (by rw [upd_other (by decide)] at h6; exact h6)⟩), (fun h => f8 (upd_ne h (by decide))), (kp f9), (fun h => absurd hLS (by rw [upd_ne h (by decide)]; decide))⟩
          · obtain rfl := Option.some.inj ho
            have g2 := f2 (hd ⟨2, .data⟩ (by simp) rfl)
            subst g2
            have hLS : L 10 = false := by
              cases e : L 10
              · rfl
              · exact absurd ((f10 e).1 3 (by decide)) (by rw [hL]; decide)
            have S := I0 hLS
            have hwq : IntKind.i64.wrap ((q2 : Int) + 1) = (q2 : Int) + 1 := IntWalk.i64_in _ (by omega)
            refine wpOp_step rfl (fun K' hK => ?_)
            go_simp
            refine hK _ _ ?_
            exact ⟨_, _, _, _, _, _, _, _, _, _, rfl, (fun _ => by
              rw [upd_other (by decide)]
              exact S), (kp f0), (kp f1), (kp f2), (fun _ => rfl), (fun h => by
              obtain ⟨gt, e, r, hgt⟩ := f4 (upd_ne h (by decide))
              exact ⟨gt, e, fun h6 => r (by rw [upd_other (by decide)] at h6; exact h6), hgt⟩), (kp f5), (fun h => f6 (upd_ne h (by decide))), (fun h => by
              obtain ⟨gt, kk, e, hkk, hgt, r⟩ := f7 (upd_ne h (by decide))
              exact ⟨gt, kk, e, hkk, hgt, fun h6 => r (by rw [upd_other (by decide)] at h6; exact h6)⟩), (fun h => f8 (upd_ne h (by decide))), (kp f9), (fun h => absurd hLS (by rw [upd_ne h (by decide)]; decide))⟩
          · obtain rfl := Option.some.inj ho
            have g3 := f3 (hd ⟨3, .data⟩ (by simp) rfl)
            subst g3
            have hLS : L 10 = false := by
              cases e : L 10
              · rfl
              · exact absurd ((f10 e).1 4 (by decide)) (by rw [hL]; decide)
            have S := I0 hLS
            refine wpOp_step rfl (fun K' hK => ?_)
            go_simp
            refine hK _ _ ?_
            exact ⟨_, _, _, _, _, _, _, _, _, _, rfl, (fun _ => by
              rw [upd_other (by decide)]
              exact S.up ((Below.refl ww.heap.size ww).alloc (Nat.le_refl _) _)), (kp f0), (kp f1), (kp f2), (kp f3), (fun _ => ⟨ww.heap.size, rfl, fun _ => Rw.new ww 3 #[.int .i64 (-1), .int .i64 ((q2 : Int) + 1)], by have := S.grown.size; have := S.old; omega⟩), (kp f5), (fun h => f6 (upd_ne h (by decide))), (fun h => by
              obtain ⟨gt, kk, e, hkk, hgt, r⟩ := f7 (upd_ne h (by decide))
              exact ⟨gt, kk, e, hkk, hgt, fun h6 => Rw.alloc (r (by rw [upd_other (by decide)] at h6; exact h6)) _⟩), (fun h => f8 (upd_ne h (by decide))), (kp f9), (fun h => absurd hLS (by rw [upd_ne h (by decide)]; decide))⟩
          · obtain rfl := Option.some.inj ho
            have hLS : L 10 = false := by
              cases e : L 10
              · rfl
              · exact absurd ((f10 e).1 5 (by decide)) (by rw [hL]; decide)
            have S := I0 hLS
            refine wpOp_step rfl (fun K' hK => ?_)
            go_simp
            refine hK _ _ ?_
            exact ⟨_, _, _, _, _, _, _, _, _, _, rfl, (fun _ => by
              rw [upd_other (by decide)]
              exact S), (kp f0), (kp f1), (kp f2), (kp f3), (fun h => by
              obtain ⟨gt, e, r, hgt⟩ := f4 (upd_ne h (by decide))
              exact ⟨gt, e, fun h6 => r (by rw [upd_other (by decide)] at h6; exact h6), hgt⟩), (fun _ => rfl), (fun h => f6 (upd_ne h (by decide))), (fun h => by
              obtain ⟨gt, kk, e, hkk, hgt, r⟩ := f7 (upd_ne h (by decide))
              exact ⟨gt, kk, e, hkk, hgt, fun h6 => r (by rw [upd_other (by decide)] at h6; exact h6)⟩), (fun h => f8 (upd_ne h (by decide))), (kp f9), (fun h => absurd hLS (by rw [upd_ne h (by decide)]; decide))⟩
          · obtain rfl := Option.some.inj ho
            have g5 := f5 (hd ⟨5, .data⟩ (by simp) rfl)
            subst g5
            have hLS : L 10 = false := by
              cases e : L 10
              · rfl
              · exact absurd ((f10 e).1 6 (by decide)) (by rw [hL]; decide)
            have S := I0 hLS
            rw [hL] at S
            rw [if_neg Bool.false_ne_true] at S
            refine wpOp_step rfl (fun K' hK => ?_)
            go_simp
            refine (pick_any gr (N + 703) 2 ww S.rd (by omega) (by omega)).mono ?_
            rintro e w' ⟨kk, rfl, ka, kb, hr7, gg⟩
            obtain ⟨kk, rfl⟩ := Int.eq_ofNat_of_zero_le ka
            refine hK _ _ ?_
            exact ⟨_, _, _, _, _, _, _, _, _, _, rfl, (fun _ => by
              rw [upd_self, if_pos rfl]
              exact S.pick hr7 gg), (kp f0), (kp f1), (kp f2), (kp f3), (fun h => by
              obtain ⟨gt, e, r, hgt⟩ := f4 (upd_ne h (by decide))
              exact ⟨gt, e, fun h6 => Rw.far (r (by rw [upd_other (by decide)] at h6; exact h6)) gg (fun e => by have := Option.some.inj e; omega), hgt⟩), (kp f5), (fun _ => ⟨kk, rfl, by omega⟩), (fun h => by
              obtain ⟨gt, kk, e, hkk, hgt, r⟩ := f7 (upd_ne h (by decide))
              exact ⟨gt, kk, e, hkk, hgt, fun h6 => Rw.far (r (by rw [upd_other (by decide)] at h6; exact h6)) gg (fun e => by have := Option.some.inj e; omega)⟩), (fun h => f8 (upd_ne h (by decide))), (kp f9), (fun h => absurd hLS (by rw [upd_ne h (by decide)]; decide))⟩
          · obtain rfl := Option.some.inj ho
            have g4 := f4 (hd ⟨4, .data⟩ (by simp) rfl)
            have g6 := f6 (hd ⟨6, .data⟩ (by simp) rfl)
            have hLS : L 10 = false := by
              cases e : L 10
              · rfl
              · exact absurd ((f10 e).1 7 (by decide)) (by rw [hL]; decide)
            have S := I0 hLS
            obtain ⟨gt, e4, r4, hgt⟩ := g4
            obtain ⟨kk, e6, hkk⟩ := g6
            subst e4
            subst e6
            have hkk2 : (kk : Int) < 2 := by omega
            refine wpOp_step rfl (fun K' hK => ?_)
            go_simp
            refine hK _ _ ?_
            exact ⟨_, _, _, _, _, _, _, _, _, _, rfl, (fun _ => by
              rw [upd_other (by decide)]
              exact S), (kp f0), (kp f1), (kp f2), (kp f3), (fun h => ⟨gt, rfl, fun h6 => r4 (by rw [upd_other (by decide)] at h6; exact h6), hgt⟩), (kp f5), (fun h => ⟨kk, rfl, hkk⟩), (fun _ => ⟨gt, kk, by simp, hkk, hgt, fun h6 => r4 (by rw [upd_other (by decide)] at h6; exact h6)⟩), (fun h => f8 (upd_ne h (by decide))), (kp f9), (fun h => absurd hLS (by rw [upd_ne h (by decide)]; decide))⟩
          · obtain rfl := Option.some.inj ho
            have g7 := f7 (hd ⟨7, .data⟩ (by simp) rfl)
            have hLS : L 10 = false := by
              cases e : L 10
              · rfl
              · exact absurd ((f10 e).1 8 (by decide)) (by rw [hL]; decide)
            have S := I0 hLS
            obtain ⟨gt, kk, e7, hkk, hgt, r7⟩ := g7
            subst e7
            have rt := r7 hLS
            obtain ⟨y, z8⟩ : ∃ y : Int, ww.cell? ⟨gt, kk, none⟩ = some (.int .i64 y) := by
              rw [rt.cell]
              obtain rfl | rfl : kk = 0 ∨ kk = 1 := by omega
              · exact ⟨_, rfl⟩
              · exact ⟨_, rfl⟩
            refine wpOp_step rfl (fun K' hK => ?_)
            go_simp
            refine hK _ _ ?_
            exact ⟨_, _, _, _, _, _, _, _, _, _, rfl, (fun _ => by
              rw [upd_other (by decide)]
              exact S), (kp f0), (kp f1), (kp f2), (kp f3), (fun h => by
              obtain ⟨gt, e, r, hgt⟩ := f4 (upd_ne h (by decide))
              exact ⟨gt, e, fun h6 => r (by rw [upd_other (by decide)] at h6; exact h6), hgt⟩), (kp f5), (fun h => f6 (upd_ne h (by decide))), (fun h => ⟨gt, kk, rfl, hkk, hgt, fun h6 => r7 (by rw [upd_other (by decide)] at h6; exact h6)⟩), (fun _ => ⟨y, rfl⟩), (kp f9), (fun h => absurd hLS (by rw [upd_ne h (by decide)]; decide))⟩
          · obtain rfl := Option.some.inj ho
            have hLS : L 10 = false := by
              cases e : L 10
              · rfl
              · exact absurd ((f10 e).1 9 (by decide)) (by rw [hL]; decide)
            have S := I0 hLS
            refine wpOp_step rfl (fun K' hK => ?_)
            go_simp
            refine hK _ _ ?_
            exact ⟨_, _, _, _, _, _, _, _, _, _, rfl, (fun _ => by
              rw [upd_other (by decide)]
              exact S), (kp f0), (kp f1), (kp f2), (kp f3), (fun h => by
              obtain ⟨gt, e, r, hgt⟩ := f4 (upd_ne h (by decide))
              exact ⟨gt, e, fun h6 => r (by rw [upd_other (by decide)] at h6; exact h6), hgt⟩), (kp f5), (fun h => f6 (upd_ne h (by decide))), (fun h => by
              obtain ⟨gt, kk, e, hkk, hgt, r⟩ := f7 (upd_ne h (by decide))
              exact ⟨gt, kk, e, hkk, hgt, fun h6 => r (by rw [upd_other (by decide)] at h6; exact h6)⟩), (fun h => f8 (upd_ne h (by decide))), (fun _ => rfl), (fun h => absurd hLS (by rw [upd_ne h (by decide)]; decide))⟩
          · obtain rfl := Option.some.inj ho
            have g8 := f8 (hd ⟨8, .data⟩ (by simp) rfl)
            have g9 := f9 (hd ⟨9, .data⟩ (by simp) rfl)
            subst g9
            have lq : Hid (∀ q, q < 10 → L q = true) := Lib.hid (by
              intro q hq
              obtain rfl | rfl | rfl | rfl | rfl | rfl | rfl | rfl | rfl | rfl : q = 0 ∨ q = 1 ∨ q = 2 ∨ q = 3 ∨ q = 4 ∨ q = 5 ∨ q = 6 ∨ q = 7 ∨ q = 8 ∨ q = 9 := by omega
              · exact hd ⟨0, .phase⟩ (by simp) rfl
              · exact hd ⟨1, .phase⟩ (by simp) rfl
              · exact hd ⟨2, .phase⟩ (by simp) rfl
              · exact hd ⟨3, .phase⟩ (by simp) rfl
              · exact hd ⟨4, .phase⟩ (by simp) rfl
              · exact hd ⟨5, .phase⟩ (by simp) rfl
              · exact hd ⟨6, .phase⟩ (by simp) rfl
              · exact hd ⟨7, .phase⟩ (by simp) rfl
              · exact hd ⟨8, .phase⟩ (by simp) rfl
              · exact hd ⟨9, .data⟩ (by simp) rfl)
            have S := I0 hL
            rw [lq.out 6 (by decide), if_pos rfl] at S
            obtain ⟨y, e8⟩ := g8
            subst e8
            have z3 : ww.cell? ⟨b, 3, none⟩ = some (.int .i64 i) := S.box.cell 3
            have zf : ww.frozen? ⟨b, 3, none⟩ = false := S.box.frozen 3
            refine wpOp_step rfl (fun K' hK => ?_)
            go_simp
            refine hK _ _ ?_
            exact ⟨_, _, _, _, _, _, _, _, _, _, rfl, (fun h => absurd h (by rw [upd_self]; decide)), (kp f0), (kp f1), (kp f2), (kp f3), (fun h => by
              obtain ⟨gt, e, r, hgt⟩ := f4 (upd_ne h (by decide))
              exact ⟨gt, e, fun h6 => absurd h6 (by rw [upd_self]; decide), hgt⟩), (kp f5), (fun h => f6 (upd_ne h (by decide))), (fun h => by
              obtain ⟨gt, kk, e, hkk, hgt, r⟩ := f7 (upd_ne h (by decide))
              exact ⟨gt, kk, e, hkk, hgt, fun h6 => absurd h6 (by rw [upd_self]; decide)⟩), (fun h => ⟨y, rfl⟩), (kp f9), (fun _ => ⟨fun q hq => upd_mono (lq.out q hq), y, S.at_ y⟩)⟩
        case hdone =>
          rintro L ac ww hall ⟨t48, t49, t50, t51, t52, t53, t54, t55, t56, t57, rfl, I0, f0, f1, f2, f3, f4, f5, f6, f7, f8, f9, f10⟩
          have e0 := f0 (hall 0 (by decide))
          have e1 := f1 (hall 1 (by decide))
          have e2 := f2 (hall 2 (by decide))
          have e3 := f3 (hall 3 (by decide))
          have e4 := f4 (hall 4 (by decide))
          have e5 := f5 (hall 5 (by decide))
          have e6 := f6 (hall 6 (by decide))
          have e7 := f7 (hall 7 (by decide))
          have e8 := f8 (hall 8 (by decide))
          have e9 := f9 (hall 9 (by decide))
          have e10 := f10 (hall 10 (by decide))
          clear f0 f1 f2 f3 f4 f5 f6 f7 f8 f9 f10
          obtain ⟨-, y, S8⟩ := e10
          clear I0 e0 e1 e2 e3 e4 e5 e6 e7 e8 e9 hall S6
          have b0 : ww.cell? ⟨b, 0, none⟩ = some (.slice A2 n2 c2) := S8.box.cell 0
          have b1 : ww.cell? ⟨b, 1, none⟩ = some (.slice R2 m2 d2) := S8.box.cell 1
          have b2 : ww.cell? ⟨b, 2, none⟩ = some (.slice D2 q2 e2) := S8.box.cell 2
          have b3 : ww.cell? ⟨b, 3, none⟩ = some (.int .i64 y) := S8.box.cell 3
          have fr0 : ww.frozen? ⟨w.heap.size, 0, none⟩ = false := S8.res.frozen 0
          have fr1 : ww.frozen? ⟨w.heap.size, 1, none⟩ = false := S8.res.frozen 1
          have fr2 : ww.frozen? ⟨w.heap.size, 2, none⟩ = false := S8.res.frozen 2
          have fr3 : ww.frozen? ⟨w.heap.size, 3, none⟩ = false := S8.res.frozen 3
          have rc0 : ww.cell? ⟨w.heap.size, 0, none⟩ = some (.slice none 0 0) := S8.res.cell 0
          have rc1 : ww.cell? ⟨w.heap.size, 1, none⟩ = some (.slice none 0 0) := S8.res.cell 1
          have rc2 : ww.cell? ⟨w.heap.size, 2, none⟩ = some (.slice none 0 0) := S8.res.cell 2
          have rc3 : ww.cell? ⟨w.heap.size, 3, none⟩ = some (.int .i64 0) := S8.res.cell 3
          have rs0 : ((((ww.setCell ⟨w.heap.size, 0, none⟩ (.slice A2 n2 c2)).setCell ⟨w.heap.size, 1, none⟩ (.slice R2 m2 d2)).setCell ⟨w.heap.size, 2, none⟩ (.slice D2 q2 e2)).setCell ⟨w.heap.size, 3, none⟩ (.int .i64 y)).cell? ⟨w.heap.size, 0, none⟩ = some (.slice A2 n2 c2) := ((((S8.res.put 0 (.slice A2 n2 c2)).put 1 (.slice R2 m2 d2)).put 2 (.slice D2 q2 e2)).put 3 (.int .i64 y)).cell 0
          have rs1 : ((((ww.setCell ⟨w.heap.size, 0, none⟩ (.slice A2 n2 c2)).setCell ⟨w.heap.size, 1, none⟩ (.slice R2 m2 d2)).setCell ⟨w.heap.size, 2, none⟩ (.slice D2 q2 e2)).setCell ⟨w.heap.size, 3, none⟩ (.int .i64 y)).cell? ⟨w.heap.size, 1, none⟩ = some (.slice R2 m2 d2) := ((((S8.res.put 0 (.slice A2 n2 c2)).put 1 (.slice R2 m2 d2)).put 2 (.slice D2 q2 e2)).put 3 (.int .i64 y)).cell 1
          have rs2 : ((((ww.setCell ⟨w.heap.size, 0, none⟩ (.slice A2 n2 c2)).setCell ⟨w.heap.size, 1, none⟩ (.slice R2 m2 d2)).setCell ⟨w.heap.size, 2, none⟩ (.slice D2 q2 e2)).setCell ⟨w.heap.size, 3, none⟩ (.int .i64 y)).cell? ⟨w.heap.size, 2, none⟩ = some (.slice D2 q2 e2) := ((((S8.res.put 0 (.slice A2 n2 c2)).put 1 (.slice R2 m2 d2)).put 2 (.slice D2 q2 e2)).put 3 (.int .i64 y)).cell 2
          have rs3 : ((((ww.setCell ⟨w.heap.size, 0, none⟩ (.slice A2 n2 c2)).setCell ⟨w.heap.size, 1, none⟩ (.slice R2 m2 d2)).setCell ⟨w.heap.size, 2, none⟩ (.slice D2 q2 e2)).setCell ⟨w.heap.size, 3, none⟩ (.int .i64 y)).cell? ⟨w.heap.size, 3, none⟩ = some (.int .i64 y) := ((((S8.res.put 0 (.slice A2 n2 c2)).put 1 (.slice R2 m2 d2)).put 2 (.slice D2 q2 e2)).put 3 (.int .i64 y)).cell 3
          have DD := Lib.hid (S8.out (N' := N) (by omega) HSM.out (by rw [HQ2.out]; omega))
          clear S8
          go_wp2_with fail
          exact bodyPost_ret (v := .agg #[.slice A2 n2 c2, .slice R2 m2 d2, .slice D2 q2 e2, .int .i64 y]) (by simp [results, Try.results55, go_sem, *]) rfl DD.out
      case inr.inl =>
        obtain ⟨rvs, o⟩ := S6.own
        have ow := World.ownsRow.alloc o.mks (.cells #[.bool false] 4)
        have rr : OS (w6.alloc (.cells #[.bool false] 4)) (w6.alloc (.cells #[.bool false] 4)).heap.size (some ⟨w6.heap.size, 0, none⟩) 1 [false] := (own_oneO w6 false 0 (Nat.zero_le _)).reads
        have hyn : l.ms.length + 1 ≤ 1099511627776 := by rw [HQ2.out]; omega
        have S7 := S6.up ((Below.refl w6.heap.size w6).alloc (Nat.le_refl _) (.cells #[.bool false] 4))
        have hbs : w.heap.size + 1 ≤ (w6.alloc (.cells #[.bool false] 4)).heap.size := by have := S6.grown.size; simp; omega
        have x2 : w6.cell? ⟨b, 2, none⟩ = some (.slice D2 q2 e2) := S6.box.cell 2
        clear o S6
        go_upto_region 15 with (at_builtin; refine wpList_appendO rfl (.tmp 61) (.tmp 62) rfl (w.heap.size + 1) _ l.ms rfl ow (some ⟨w6.heap.size, 0, none⟩) 1 1 _ [false] rfl rr hyn hbs ?_; intro v5 w7 o5 g5 s5; have f2 : w7.frozen? ⟨b, 2, none⟩ = false := (S7.boxfar g5).frozen 2; have y2 : w7.cell? ⟨b, 2, none⟩ = some (.slice D2 q2 e2) := (S7.boxfar g5).cell 2; have S8 := S7.app o5 g5 s5; obtain ⟨D5, e5, rfl, -⟩ := o5.form; obtain ⟨q5, hq5⟩ : ∃ q5, (l.ms ++ [false]).length = q5 := ⟨_, rfl⟩; rw [hq5] at S8 ⊢; have HL8 := Lib.hid (show (l.ms ++ [false]).length ≤ 41 by rw [List.length_append, HQ2.out, List.length_singleton]; omega); clear hq5 S7 ow rr g5 s5 o5 x2)
        generalize w7.setCell ⟨b, 2, none⟩ (.slice D5 q5 e5) = w8 at S8 ⊢
        have b0 : w8.cell? ⟨b, 0, none⟩ = some (.slice A2 n2 c2) := S8.box.cell 0
        have b1 : w8.cell? ⟨b, 1, none⟩ = some (.slice R2 m2 d2) := S8.box.cell 1
        have b2 : w8.cell? ⟨b, 2, none⟩ = some (.slice D5 q5 e5) := S8.box.cell 2
        have b3 : w8.cell? ⟨b, 3, none⟩ = some (.int .i64 i) := S8.box.cell 3
        have fr0 : w8.frozen? ⟨w.heap.size, 0, none⟩ = false := S8.res.frozen 0
        have fr1 : w8.frozen? ⟨w.heap.size, 1, none⟩ = false := S8.res.frozen 1
        have fr2 : w8.frozen? ⟨w.heap.size, 2, none⟩ = false := S8.res.frozen 2
        have fr3 : w8.frozen? ⟨w.heap.size, 3, none⟩ = false := S8.res.frozen 3
        have rc0 : w8.cell? ⟨w.heap.size, 0, none⟩ = some (.slice none 0 0) := S8.res.cell 0
        have rc1 : w8.cell? ⟨w.heap.size, 1, none⟩ = some (.slice none 0 0) := S8.res.cell 1
        have rc2 : w8.cell? ⟨w.heap.size, 2, none⟩ = some (.slice none 0 0) := S8.res.cell 2
        have rc3 : w8.cell? ⟨w.heap.size, 3, none⟩ = some (.int .i64 0) := S8.res.cell 3
        have rs0 : ((((w8.setCell ⟨w.heap.size, 0, none⟩ (.slice A2 n2 c2)).setCell ⟨w.heap.size, 1, none⟩ (.slice R2 m2 d2)).setCell ⟨w.heap.size, 2, none⟩ (.slice D5 q5 e5)).setCell ⟨w.heap.size, 3, none⟩ (.int .i64 i)).cell? ⟨w.heap.size, 0, none⟩ = some (.slice A2 n2 c2) := ((((S8.res.put 0 (.slice A2 n2 c2)).put 1 (.slice R2 m2 d2)).put 2 (.slice D5 q5 e5)).put 3 (.int .i64 i)).cell 0
        have rs1 : ((((w8.setCell ⟨w.heap.size, 0, none⟩ (.slice A2 n2 c2)).setCell ⟨w.heap.size, 1, none⟩ (.slice R2 m2 d2)).setCell ⟨w.heap.size, 2, none⟩ (.slice D5 q5 e5)).setCell ⟨w.heap.size, 3, none⟩ (.int .i64 i)).cell? ⟨w.heap.size, 1, none⟩ = some (.slice R2 m2 d2) := ((((S8.res.put 0 (.slice A2 n2 c2)).put 1 (.slice R2 m2 d2)).put 2 (.slice D5 q5 e5)).put 3 (.int .i64 i)).cell 1
        have rs2 : ((((w8.setCell ⟨w.heap.size, 0, none⟩ (.slice A2 n2 c2)).setCell ⟨w.heap.size, 1, none⟩ (.slice R2 m2 d2)).setCell ⟨w.heap.size, 2, none⟩ (.slice D5 q5 e5)).setCell ⟨w.heap.size, 3, none⟩ (.int .i64 i)).cell? ⟨w.heap.size, 2, none⟩ = some (.slice D5 q5 e5) := ((((S8.res.put 0 (.slice A2 n2 c2)).put 1 (.slice R2 m2 d2)).put 2 (.slice D5 q5 e5)).put 3 (.int .i64 i)).cell 2
        have rs3 : ((((w8.setCell ⟨w.heap.size, 0, none⟩ (.slice A2 n2 c2)).setCell ⟨w.heap.size, 1, none⟩ (.slice R2 m2 d2)).setCell ⟨w.heap.size, 2, none⟩ (.slice D5 q5 e5)).setCell ⟨w.heap.size, 3, none⟩ (.int .i64 i)).cell? ⟨w.heap.size, 3, none⟩ = some (.int .i64 i) := ((((S8.res.put 0 (.slice A2 n2 c2)).put 1 (.slice R2 m2 d2)).put 2 (.slice D5 q5 e5)).put 3 (.int .i64 i)).cell 3
        have DD := Lib.hid (S8.out (N' := N) (by omega) HSM.out HL8.out)
        clear S8
        go_wp2_with fail
        exact bodyPost_ret (v := .agg #[.slice A2 n2 c2, .slice R2 m2 d2, .slice D5 q5 e5, .int .i64 i]) (by simp [results, Try.results55, go_sem, *]) rfl DD.out
      obtain ⟨rvs, o⟩ := S6.own
      have x2 : w6.cell? ⟨b, 2, none⟩ = some (.slice D2 q2 e2) := S6.box.cell 2
      by_cases hq0 : 0 < q2
      · have hq0' : (0 : Int) < q2 := by omega
        obtain ⟨A8, c8, e3, fD⟩ := o.mks.form
        rw [HQ2.out] at e3 fD
        obtain ⟨gm, rfl, -⟩ := fD hq0
        injection e3 with e3a e3b e3c
        subst e3a e3c
        clear e3b
        clear o fD
        go_wp2_with fail
        refine (pick_any gr (N + 703) q2 _ S6.rd (by omega) (by omega)).mono ?_
        rintro e w7 ⟨kk, rfl, ka, kb, hr7, g7⟩
        have S7 := S6.pick hr7 g7
        obtain ⟨kk, rfl⟩ := Int.eq_ofNat_of_zero_le ka
        have hkk : kk < q2 := by omega
        have hkk' : (kk : Int) < q2 := by omega
        clear S6 hr7 g7 ka kb x2
        obtain ⟨rvs, o⟩ := S7.own
        have x2 : w7.cell? ⟨b, 2, none⟩ = some (.slice (some ⟨gm, 0, none⟩) q2 e2) := S7.box.cell 2
        obtain ⟨_, _, mk, e9, -, hmk, d8⟩ := o.mks.reads.at_ (k := kk) hkk
        injection e9 with e9
        injection e9 with e9 e8
        subst e9 e8
        rw [Nat.zero_add] at d8
        have fm : w7.frozen? ⟨gm, kk, none⟩ = false := o.mks.frozen HQ2.out kk
        have S8 := (S7.flip (k := kk) HQ2.out (!mk)).up (below_drewN (Below.refl _ _) 1)
        have HL8 := Lib.hid (show (l.ms.set kk (!mk)).length ≤ 41 by rw [List.length_set, HQ2.out]; omega)
        clear o hmk S7
        go_wp2_with fail
        go_region
        have S9 : LzSt w (w7.setCell ⟨gm, kk, none⟩ (.bool (!mk))).drew gr _ b _ _ _ _ _ _ := S8
        clear S8 x2 d8 fm
        generalize (w7.setCell ⟨gm, kk, none⟩ (.bool (!mk))).drew = w8 at S9 ⊢
        have b0 : w8.cell? ⟨b, 0, none⟩ = some (.slice A2 n2 c2) := S9.box.cell 0
        have b1 : w8.cell? ⟨b, 1, none⟩ = some (.slice R2 m2 d2) := S9.box.cell 1
        have b2 : w8.cell? ⟨b, 2, none⟩ = some (.slice (some ⟨gm, 0, none⟩) q2 e2) := S9.box.cell 2
        have b3 : w8.cell? ⟨b, 3, none⟩ = some (.int .i64 i) := S9.box.cell 3
        have fr0 : w8.frozen? ⟨w.heap.size, 0, none⟩ = false := S9.res.frozen 0
        have fr1 : w8.frozen? ⟨w.heap.size, 1, none⟩ = false := S9.res.frozen 1
        have fr2 : w8.frozen? ⟨w.heap.size, 2, none⟩ = false := S9.res.frozen 2
        have fr3 : w8.frozen? ⟨w.heap.size, 3, none⟩ = false := S9.res.frozen 3
        have rc0 : w8.cell? ⟨w.heap.size, 0, none⟩ = some (.slice none 0 0) := S9.res.cell 0
        have rc1 : w8.cell? ⟨w.heap.size, 1, none⟩ = some (.slice none 0 0) := S9.res.cell 1
        have rc2 : w8.cell? ⟨w.heap.size, 2, none⟩ = some (.slice none 0 0) := S9.res.cell 2
        have rc3 : w8.cell? ⟨w.heap.size, 3, none⟩ = some (.int .i64 0) := S9.res.cell 3
        have rs0 : ((((w8.setCell ⟨w.heap.size, 0, none⟩ (.slice A2 n2 c2)).setCell ⟨w.heap.size, 1, none⟩ (.slice R2 m2 d2)).setCell ⟨w.heap.size, 2, none⟩ (.slice (some ⟨gm, 0, none⟩) q2 e2)).setCell ⟨w.heap.size, 3, none⟩ (.int .i64 i)).cell? ⟨w.heap.size, 0, none⟩ = some (.slice A2 n2 c2) := ((((S9.res.put 0 (.slice A2 n2 c2)).put 1 (.slice R2 m2 d2)).put 2 (.slice (some ⟨gm, 0, none⟩) q2 e2)).put 3 (.int .i64 i)).cell 0
        have rs1 : ((((w8.setCell ⟨w.heap.size, 0, none⟩ (.slice A2 n2 c2)).setCell ⟨w.heap.size, 1, none⟩ (.slice R2 m2 d2)).setCell ⟨w.heap.size, 2, none⟩ (.slice (some ⟨gm, 0, none⟩) q2 e2)).setCell ⟨w.heap.size, 3, none⟩ (.int .i64 i)).cell? ⟨w.heap.size, 1, none⟩ = some (.slice R2 m2 d2) := ((((S9.res.put 0 (.slice A2 n2 c2)).put 1 (.slice R2 m2 d2)).put 2 (.slice (some ⟨gm, 0, none⟩) q2 e2)).put 3 (.int .i64 i)).cell 1
        have rs2 : ((((w8.setCell ⟨w.heap.size, 0, none⟩ (.slice A2 n2 c2)).setCell ⟨w.heap.size, 1, none⟩ (.slice R2 m2 d2)).setCell ⟨w.heap.size, 2, none⟩ (.slice (some ⟨gm, 0, none⟩) q2 e2)).setCell ⟨w.heap.size, 3, none⟩ (.int .i64 i)).cell? ⟨w.heap.size, 2, none⟩ = some (.slice (some ⟨gm, 0, none⟩) q2 e2) := ((((S9.res.put 0 (.slice A2 n2 c2)).put 1 (.slice R2 m2 d2)).put 2 (.slice (some ⟨gm, 0, none⟩) q2 e2)).put 3 (.int .i64 i)).cell 2
        have rs3 : ((((w8.setCell ⟨w.heap.size, 0, none⟩ (.slice A2 n2 c2)).setCell ⟨w.heap.size, 1, none⟩ (.slice R2 m2 d2)).setCell ⟨w.heap.size, 2, none⟩ (.slice (some ⟨gm, 0, none⟩) q2 e2)).setCell ⟨w.heap.size, 3, none⟩ (.int .i64 i)).cell? ⟨w.heap.size, 3, none⟩ = some (.int .i64 i) := ((((S9.res.put 0 (.slice A2 n2 c2)).put 1 (.slice R2 m2 d2)).put 2 (.slice (some ⟨gm, 0, none⟩) q2 e2)).put 3 (.int .i64 i)).cell 3
        have DD := Lib.hid (S9.out (N' := N) (by omega) HSM.out HL8.out)
        clear S9
        go_wp2_with fail
        exact bodyPost_ret (v := .agg #[.slice A2 n2 c2, .slice R2 m2 d2, .slice (some ⟨gm, 0, none⟩) q2 e2, .int .i64 i]) (by simp [results, Try.results55, go_sem, *]) rfl DD.out
      · have hq0' : ¬ (0 : Int) < q2 := by omega
        have HL8 := Lib.hid (show l.ms.length ≤ 41 by rw [HQ2.out]; omega)
        clear o
        have b0 : w6.cell? ⟨b, 0, none⟩ = some (.slice A2 n2 c2) := S6.box.cell 0
        have b1 : w6.cell? ⟨b, 1, none⟩ = some (.slice R2 m2 d2) := S6.box.cell 1
        have b2 : w6.cell? ⟨b, 2, none⟩ = some (.slice D2 q2 e2) := S6.box.cell 2
        have b3 : w6.cell? ⟨b, 3, none⟩ = some (.int .i64 i) := S6.box.cell 3
        have fr0 : w6.frozen? ⟨w.heap.size, 0, none⟩ = false := S6.res.frozen 0
        have fr1 : w6.frozen? ⟨w.heap.size, 1, none⟩ = false := S6.res.frozen 1
        have fr2 : w6.frozen? ⟨w.heap.size, 2, none⟩ = false := S6.res.frozen 2
        have fr3 : w6.frozen? ⟨w.heap.size, 3, none⟩ = false := S6.res.frozen 3
        have rc0 : w6.cell? ⟨w.heap.size, 0, none⟩ = some (.slice none 0 0) := S6.res.cell 0
        have rc1 : w6.cell? ⟨w.heap.size, 1, none⟩ = some (.slice none 0 0) := S6.res.cell 1
        have rc2 : w6.cell? ⟨w.heap.size, 2, none⟩ = some (.slice none 0 0) := S6.res.cell 2
        have rc3 : w6.cell? ⟨w.heap.size, 3, none⟩ = some (.int .i64 0) := S6.res.cell 3
        have rs0 : ((((w6.setCell ⟨w.heap.size, 0, none⟩ (.slice A2 n2 c2)).setCell ⟨w.heap.size, 1, none⟩ (.slice R2 m2 d2)).setCell ⟨w.heap.size, 2, none⟩ (.slice D2 q2 e2)).setCell ⟨w.heap.size, 3, none⟩ (.int .i64 i)).cell? ⟨w.heap.size, 0, none⟩ = some (.slice A2 n2 c2) := ((((S6.res.put 0 (.slice A2 n2 c2)).put 1 (.slice R2 m2 d2)).put 2 (.slice D2 q2 e2)).put 3 (.int .i64 i)).cell 0
        have rs1 : ((((w6.setCell ⟨w.heap.size, 0, none⟩ (.slice A2 n2 c2)).setCell ⟨w.heap.size, 1, none⟩ (.slice R2 m2 d2)).setCell ⟨w.heap.size, 2, none⟩ (.slice D2 q2 e2)).setCell ⟨w.heap.size, 3, none⟩ (.int .i64 i)).cell? ⟨w.heap.size, 1, none⟩ = some (.slice R2 m2 d2) := ((((S6.res.put 0 (.slice A2 n2 c2)).put 1 (.slice R2 m2 d2)).put 2 (.slice D2 q2 e2)).put 3 (.int .i64 i)).cell 1
        have rs2 : ((((w6.setCell ⟨w.heap.size, 0, none⟩ (.slice A2 n2 c2)).setCell ⟨w.heap.size, 1, none⟩ (.slice R2 m2 d2)).setCell ⟨w.heap.size, 2, none⟩ (.slice D2 q2 e2)).setCell ⟨w.heap.size, 3, none⟩ (.int .i64 i)).cell? ⟨w.heap.size, 2, none⟩ = some (.slice D2 q2 e2) := ((((S6.res.put 0 (.slice A2 n2 c2)).put 1 (.slice R2 m2 d2)).put 2 (.slice D2 q2 e2)).put 3 (.int .i64 i)).cell 2
        have rs3 : ((((w6.setCell ⟨w.heap.size, 0, none⟩ (.slice A2 n2 c2)).setCell ⟨w.heap.size, 1, none⟩ (.slice R2 m2 d2)).setCell ⟨w.heap.size, 2, none⟩ (.slice D2 q2 e2)).setCell ⟨w.heap.size, 3, none⟩ (.int .i64 i)).cell? ⟨w.heap.size, 3, none⟩ = some (.int .i64 i) := ((((S6.res.put 0 (.slice A2 n2 c2)).put 1 (.slice R2 m2 d2)).put 2 (.slice D2 q2 e2)).put 3 (.int .i64 i)).cell 3
        have DD := Lib.hid (S6.out (N' := N) (by omega) HSM.out HL8.out)
        clear S6
        go_wp2_with fail
        exact bodyPost_ret (v := .agg #[.slice A2 n2 c2, .slice R2 m2 d2, .slice D2 q2 e2, .int .i64 i]) (by simp [results, Try.results55, go_sem, *]) rfl DD.out
/-- a lazy heap of the call's own has been drawn -/
def DrawnLz (w : World) (e : Ending) (w' : World) : Prop :=
  ∃ (A : Option Addr) (n c : Nat) (R : Option Addr) (m d : Nat) (D : Option Addr) (q ce : Nat) (h : Hp) (ms : List Bool) (i : Int), e = .returned (lzV A n c R m d D q ce i) ∧ n ≤ c ∧ m ≤ d ∧ OwnLz w' w.heap.size (.slice A n c) (.slice R m d) (.slice D q ce) h ms ∧ SmallH h ∧ ms.length ≤ 41 ∧ Below w.heap.size w w'
set_option maxHeartbeats 1000000 in
theorem drawLazyTake_any (A : Option Addr) (n c : Nat) (w : World) (h : Bytes w w.heap.size A n) (hc : n ≤ c) (hn : n ≤ 9223372036854775807) :
    Calls Try.prog 23 #[.slice A n c] w (DrawnLz w) := by
  have b0 : Below w.heap.size w (w.alloc (.cells #[.slice none 0 0, .slice none 0 0, .slice none 0 0, .int .i64 0] 30)) := (Below.refl _ _).alloc (Nat.le_refl _) _
  have h0 := (h.keep fun p hp => b0.cell hp).more b0.size
  have r0 := Rw.new w 30 #[.slice none 0 0, .slice none 0 0, .slice none 0 0, .int .i64 0]
  go_enter Try.func23, Try.ntmps23
  go_wp2_with fail
  refine (open_any _ _ _ _ h0 hc hn).mono ?_
  rintro e w1 ⟨rfl, hr1, b1⟩
  have r1 := r0.keep b1 r0.lt
  have hz := r0.lt
  have bb1 := b0.trans (b1.mono b0.size)
  have hs0 := b0.size
  have hs1 := b1.size
  generalize w.alloc (.cells #[.slice none 0 0, .slice none 0 0, .slice none 0 0, .int .i64 0] 30) = w0 at b0 h0 r0 hr1 b1 r1 hz bb1 hs0 hs1 ⊢
  go_wp2_with fail
  refine (l20Lazy_any _ _ 9 _ hr1 (by omega) (by omega) (by omega)).mono ?_
  rintro e w2 ⟨vc, vr, vm, hh, ms, i, rfl, ho, hsm, hml, hr2, g2⟩
  have r2 := r1.far g2 (fun e => by injection e with e; omega)
  have bb2 : Below w.heap.size w w2 := bb1.grown g2 bb1.size (fun k hk => by injection hk; omega)
  have D9 := Lib.hid (OwnLz.out (w := w) (g := w.heap.size) i ho (by omega) bb2 (Nat.le_refl _))
  have caps := Lib.hid ho
  obtain ⟨rvs, o⟩ := ho
  obtain ⟨A2, c2, R2, d2, D2, e2, rfl, rfl, rfl, hc2, hd2⟩ := o.slices
  obtain ⟨n2, hn2⟩ : ∃ n2, hh.cs.length = n2 := ⟨_, rfl⟩
  obtain ⟨m2, hm2⟩ : ∃ m2, hh.rt.length = m2 := ⟨_, rfl⟩
  obtain ⟨q2, hq2⟩ : ∃ q2, ms.length = q2 := ⟨_, rfl⟩
  have HC := Lib.hid (show n2 ≤ c2 ∧ m2 ≤ d2 by rw [← hn2, ← hm2]; exact ⟨hc2, hd2⟩)
  have HSM := Lib.hid hsm
  have HML := Lib.hid hml
  rw [hn2, hm2, hq2] at D9
  rw [hn2, hm2, hq2]
  have x0 : w2.cell? ⟨w.heap.size, 0, none⟩ = some (.slice none 0 0) := r2.cell 0
  have f0 : w2.frozen? ⟨w.heap.size, 0, none⟩ = false := r2.frozen 0
  have x1 : w2.cell? ⟨w.heap.size, 1, none⟩ = some (.slice none 0 0) := r2.cell 1
  have f1 : w2.frozen? ⟨w.heap.size, 1, none⟩ = false := r2.frozen 1
  have x2 : w2.cell? ⟨w.heap.size, 2, none⟩ = some (.slice none 0 0) := r2.cell 2
  have f2 : w2.frozen? ⟨w.heap.size, 2, none⟩ = false := r2.frozen 2
  have x3 : w2.cell? ⟨w.heap.size, 3, none⟩ = some (.int .i64 0) := r2.cell 3
  have f3 : w2.frozen? ⟨w.heap.size, 3, none⟩ = false := r2.frozen 3
  have y0 : ((((w2.setCell ⟨w.heap.size, 0, none⟩ (.slice A2 n2 c2)).setCell ⟨w.heap.size, 1, none⟩ (.slice R2 m2 d2)).setCell ⟨w.heap.size, 2, none⟩ (.slice D2 q2 e2)).setCell ⟨w.heap.size, 3, none⟩ (.int .i64 i)).cell? ⟨w.heap.size, 0, none⟩ = some (.slice A2 n2 c2) := ((((r2.put 0 (.slice A2 n2 c2)).put 1 (.slice R2 m2 d2)).put 2 (.slice D2 q2 e2)).put 3 (.int .i64 i)).cell 0
  have y1 : ((((w2.setCell ⟨w.heap.size, 0, none⟩ (.slice A2 n2 c2)).setCell ⟨w.heap.size, 1, none⟩ (.slice R2 m2 d2)).setCell ⟨w.heap.size, 2, none⟩ (.slice D2 q2 e2)).setCell ⟨w.heap.size, 3, none⟩ (.int .i64 i)).cell? ⟨w.heap.size, 1, none⟩ = some (.slice R2 m2 d2) := ((((r2.put 0 (.slice A2 n2 c2)).put 1 (.slice R2 m2 d2)).put 2 (.slice D2 q2 e2)).put 3 (.int .i64 i)).cell 1
  have y2 : ((((w2.setCell ⟨w.heap.size, 0, none⟩ (.slice A2 n2 c2)).setCell ⟨w.heap.size, 1, none⟩ (.slice R2 m2 d2)).setCell ⟨w.heap.size, 2, none⟩ (.slice D2 q2 e2)).setCell ⟨w.heap.size, 3, none⟩ (.int .i64 i)).cell? ⟨w.heap.size, 2, none⟩ = some (.slice D2 q2 e2) := ((((r2.put 0 (.slice A2 n2 c2)).put 1 (.slice R2 m2 d2)).put 2 (.slice D2 q2 e2)).put 3 (.int .i64 i)).cell 2
  have y3 : ((((w2.setCell ⟨w.heap.size, 0, none⟩ (.slice A2 n2 c2)).setCell ⟨w.heap.size, 1, none⟩ (.slice R2 m2 d2)).setCell ⟨w.heap.size, 2, none⟩ (.slice D2 q2 e2)).setCell ⟨w.heap.size, 3, none⟩ (.int .i64 i)).cell? ⟨w.heap.size, 3, none⟩ = some (.int .i64 i) := ((((r2.put 0 (.slice A2 n2 c2)).put 1 (.slice R2 m2 d2)).put 2 (.slice D2 q2 e2)).put 3 (.int .i64 i)).cell 3
  clear hn2 hm2 hq2 hc2 hd2 hsm hml o caps g2 hr2 r2 r1 r0 bb1 bb2 b0 b1 h0 hr1
  go_wp2_with fail
  exact bodyPost_ret (v := .agg #[.slice A2 n2 c2, .slice R2 m2 d2, .slice D2 q2 e2, .int .i64 i]) (by simp [results, Try.results23, go_sem, *]) rfl ⟨A2, n2, c2, R2, m2, d2, D2, q2, e2, hh, ms, i, rfl, HC.out.1, HC.out.2, D9.out.1, HSM.out, HML.out, D9.out.2⟩
end Go.Proofs.Ytakdjiojahlnmaa

namespace Go.Proofs.Ytakdjiojahlnmaa
namespace Bm
/-- the bits of the first k words that are b -/
def setN (xs : List Bool) (b : Bool) : Nat → Nat
  | 0 => 0
  | k + 1 => if xs[k]? = some b then setN xs b k ||| 2 ^ k else setN xs b k
theorem setN_bit (xs : List Bool) (b : Bool) (i : Nat) : ∀ k, (setN xs b k).testBit i = (decide (i < k) && decide (xs[i]? = some b))
  | 0 => by simp [setN]
  | k + 1 => by
    have ih := setN_bit xs b i k
    unfold setN
    by_cases hx : xs[k]? = some b
    · rw [if_pos hx, Nat.testBit_or, ih, Nat.testBit_two_pow]
      rcases Nat.lt_trichotomy i k with h | h | h
      · have h1 : ¬ k = i := by omega
        have h2 : i < k + 1 := by omega
        simp [h, h1, h2]
      · subst h
        simp [hx]
      · have h1 : ¬ k = i := by omega
        have h2 : ¬ i < k + 1 := by omega
        have h3 : ¬ i < k := by omega
        simp [h1, h2, h3]
    · rw [if_neg hx, ih]
      rcases Nat.lt_trichotomy i k with h | h | h
      · have h2 : i < k + 1 := by omega
        simp [h, h2]
      · subst h
        simp [hx]
      · have h2 : ¬ i < k + 1 := by omega
        have h3 : ¬ i < k := by omega
        simp [h2, h3]
theorem setN_lt (xs : List Bool) (b : Bool) : ∀ k, setN xs b k < 2 ^ k
  | 0 => by simp [setN]
  | k + 1 => by
    have ih := setN_lt xs b k
    have h2 : 2 ^ k < 2 ^ (k + 1) := Nat.pow_lt_pow_right (by omega) (by omega)
    unfold setN
    split
    · exact Nat.or_lt_two_pow (by omega) h2
    · omega
theorem pow64 {k : Nat} (h : k ≤ 64) : 2 ^ k ≤ 18446744073709551616 := by
  rw [show (18446744073709551616 : Nat) = 2 ^ 64 by decide]
  exact Nat.pow_le_pow_right (by omega) h
theorem setN_64 (xs : List Bool) (b : Bool) {k : Nat} (h : k ≤ 64) : setN xs b k < 18446744073709551616 := Nat.lt_of_lt_of_le (setN_lt xs b k) (pow64 h)
/-- the bits of all words that are b -/
def wordN (xs : List Bool) (b : Bool) : Nat := setN xs b xs.length
theorem wordN_bit (xs : List Bool) (b : Bool) (i : Nat) : (wordN xs b).testBit i = decide (xs[i]? = some b) := by
  unfold wordN
  rw [setN_bit]
  by_cases h : i < xs.length
  · simp [h]
  · rw [List.getElem?_eq_none (by omega)]
    simp
theorem wordN_lt (xs : List Bool) (b : Bool) (h : xs.length ≤ 64) : wordN xs b < 18446744073709551616 := setN_64 xs b h
/-- a bit and nothing else -/
theorem and_pow (n i : Nat) : n &&& 2 ^ i = if n.testBit i = true then 2 ^ i else 0 := by
  apply Nat.eq_of_testBit_eq
  intro j
  rw [Nat.testBit_and, Nat.testBit_two_pow]
  by_cases h : i = j
  · subst h
    cases n.testBit i <;> simp
  · cases n.testBit i <;> simp [h]
theorem zero_bits {n : Nat} (h : ∀ i, n.testBit i = false) : n = 0 := Nat.eq_of_testBit_eq fun i => by rw [h i]; simp
/-- the first k words as bools -/
theorem word_list (xs : List Bool) {n : Nat} (h : xs.length = n) (W : Nat) (hb : ∀ i, i < n → W.testBit i = decide (xs[i]? = some true)) : (List.range n).map W.testBit = xs := by
  apply List.ext_getElem?
  intro i
  rw [List.getElem?_map]
  rcases Nat.lt_or_ge i n with h1 | h1
  · rw [List.getElem?_range h1]
    have h2 := List.getElem?_eq_getElem (show i < xs.length by omega)
    rw [h2]
    have := hb i h1
    rw [h2] at this
    show some (W.testBit i) = _
    rw [this]
    cases xs[i] <;> simp
  · rw [List.getElem?_eq_none (l := List.range n) (by rw [List.length_range]; exact h1), List.getElem?_eq_none (by omega)]
    rfl
end Bm
end Go.Proofs.Ytakdjiojahlnmaa
namespace Go.Proofs.Ytakdjiojahlnmaa
/-- the bits of a number below k that are set -/
def pcN (V k : Nat) : Nat := (List.range k).countP V.testBit
namespace Pc
def val : List Nat → Nat
  | [] => 0
  | b :: bs => b + 256 * val bs
def s1 (x m : Nat) : Nat := (x / 2 &&& m) + (x &&& m)
def s2 (x m : Nat) : Nat := (x / 4 &&& m) + (x &&& m)
def s3 (x m : Nat) : Nat := (x / 16 + x) &&& m
theorem m1 : ∀ b : Fin 256, ∀ j : Fin 2, (b.val / 2 + 128 * j.val) &&& 85 = b.val / 2 &&& 85 := by decide +kernel
theorem m2 : ∀ b : Fin 256, ∀ j : Fin 4, (b.val / 4 + 64 * j.val) &&& 51 = b.val / 4 &&& 51 := by decide +kernel
def g (b : Nat) : Nat := s3 (s2 (s1 b 85) 51) 15
theorem pc_le (V k : Nat) : pcN V k ≤ k := Nat.le_trans List.countP_le_length (by simp)
end Pc
end Go.Proofs.Ytakdjiojahlnmaa
namespace Go.Proofs.Ytakdjiojahlnmaa
open Go.RowKit
namespace Hps
theorem pow_in {k : Nat} (h : k < 64) : IntKind.u64.wrap (2 ^ k) = 2 ^ k ∧ (0 : Int) < 2 ^ k ∧ (2 : Int) ^ k < 18446744073709551616 := by
  have h1 : (2 : Nat) ^ k < 2 ^ 64 := Nat.pow_lt_pow_right (by omega) h
  have h2 : (0 : Nat) < 2 ^ k := Nat.pow_pos (by omega)
  have e : ((2 ^ k : Nat) : Int) = (2 : Int) ^ k := by rw [Int.natCast_pow]; rfl
  refine ⟨?_, by omega, by omega⟩
  rw [IntKind.wrap_u64]
  omega
theorem pow_out {k : Nat} (h : 64 ≤ k) : IntKind.u64.wrap (2 ^ k) = 0 := by
  have e : ((2 ^ k : Nat) : Int) = (2 : Int) ^ k := by rw [Int.natCast_pow]; rfl
  obtain ⟨j, rfl⟩ : ∃ j, k = 64 + j := ⟨k - 64, by omega⟩
  rw [IntKind.wrap_u64, ← e, Nat.pow_add, show (2 : Nat) ^ 64 = 18446744073709551616 by decide]
  omega
theorem or_in {V k : Nat} (hV : V < 18446744073709551616) (h : k < 64) : bits .or .u64 (V : Int) (2 ^ k) = ((V ||| 2 ^ k : Nat) : Int) := by
  have h1 : (2 : Nat) ^ k < 2 ^ 64 := Nat.pow_lt_pow_right (by omega) h
  have := u64_or_nat V (2 ^ k) hV (by omega)
  rw [← this, Int.natCast_pow]
  rfl
theorem and_in {V k : Nat} (hV : V < 18446744073709551616) (h : k < 64) : bits .and .u64 (V : Int) (2 ^ k) = if V.testBit k = true then 2 ^ k else 0 := by
  have h1 : (2 : Nat) ^ k < 2 ^ 64 := Nat.pow_lt_pow_right (by omega) h
  have := u64_and_nat V (2 ^ k) hV (by omega)
  rw [Int.natCast_pow] at this
  rw [show (2 : Int) ^ k = ((2 : Nat) : Int) ^ k from rfl, this, Bm.and_pow]
  split
  · rw [Int.natCast_pow]
  · rfl
/-- the number is that of a cell of the set -/
def hasB (V : Nat) (x : Int) : Bool := decide (0 ≤ x) && V.testBit x.toNat
def okV (V : Nat) (x : Int) : Bool := x == -1 || hasB V x
def okVs (V : Nat) (rs : List Int) : Bool := rs.all (okV V)
theorem okVs_iff {V : Nat} {rs : List Int} : okVs V rs = true ↔ ∀ n ∈ rs, okV V n = true := by simp [okVs]
theorem okVs_no {V : Nat} {rs : List Int} {k : Nat} {n : Int} (hn : rs[k]? = some n) (h : okV V n = false) : okVs V rs = false := by
  cases hh : okVs V rs
  · rfl
  · rw [okVs_iff.1 hh n (List.mem_of_getElem? hn)] at h
    cases h
/-- the set of the used cells -/
def usedW (cs : List Cl) : Nat := Bm.wordN (cs.map (·.u)) true
theorem usedW_lt {cs : List Cl} (h : cs.length ≤ 64) : usedW cs < 18446744073709551616 := Bm.wordN_lt _ _ (by simpa using h)
theorem usedW_bit (cs : List Cl) (i : Nat) : (usedW cs).testBit i = usedAt cs i := by
  unfold usedW
  rw [Bm.wordN_bit, List.getElem?_map]
  unfold usedAt
  cases cs[i]? with
  | none => simp
  | some c => cases h : c.u <;> simp [h]
theorem okV_used (cs : List Cl) (x : Int) : okV (usedW cs) x = okRef cs x := by
  unfold okV okRef hasB
  rw [usedW_bit]
theorem okVs_used (cs : List Cl) (rs : List Int) : okVs (usedW cs) rs = okRefs cs rs := by
  unfold okVs okRefs
  congr 1
  funext x
  exact okV_used cs x
/-- a cell is valid beside these used ones -/
def okCl (V : Nat) (c : Cl) : Bool := if c.u = true then (decide (0 ≤ c.d) && decide (c.d ≤ 99)) && (decide (c.r.length ≤ 3) && okVs V c.r) else c.d == 0 && decide (c.r.length = 0)
theorem okCl_used (cs : List Cl) (c : Cl) : okCl (usedW cs) c = okCell cs c := by
  unfold okCl okCell
  rw [okVs_used]
  cases hu : c.u
  · rw [if_neg (by decide), Bool.false_or]
    by_cases h : c.d = 0 ∧ c.r.length = 0
    · obtain ⟨h1, h2⟩ := h
      have : c.r = [] := List.eq_nil_of_length_eq_zero h2
      rw [h1, this]
      simp [okRefs]
    · have : (c.d == 0 && decide (c.r.length = 0)) = false := by
        rw [Bool.and_eq_false_iff, beq_eq_false_iff_ne, decide_eq_false_iff_not]
        omega
      rw [this]
      simp
  · rw [if_pos rfl, Bool.true_or, Bool.true_and]
    simp only [Bool.and_assoc]
end Hps
theorem has_any (V : Nat) (x : Int) (w : World) (hV : V < 18446744073709551616) :
    Calls Try.prog 86 #[.int .u64 V, .int .i64 x] w fun e w' => e = .returned (.bool (Hps.hasB V x)) ∧ w = w' := by
  by_cases h0 : 0 ≤ x
  · obtain ⟨k, rfl⟩ := Int.eq_ofNat_of_zero_le h0
    have h0' : (k : Int) ≥ 0 := h0
    have hkneg : ¬ ((k : Int) < 0) := by omega
    have HB := Lib.hid (show Hps.hasB V (k : Int) = V.testBit k by simp [Hps.hasB])
    by_cases h : k < 64
    · obtain ⟨p1, p2, p3⟩ := Hps.pow_in h
      have hand := Hps.and_in hV h
      cases ht : V.testBit k
      · rw [ht] at hand HB
        rw [if_neg (by decide)] at hand
        clear ht
        go_enter Try.func86, Try.ntmps86
        go_wp2_with fail
        go_ret
        exact ⟨by rw [HB.out]; rfl, rfl⟩
      · rw [ht] at hand HB
        rw [if_pos rfl] at hand
        have hz : ((2 : Int) ^ k != 0) = true := by rw [bne_iff_ne]; omega
        clear ht
        go_enter Try.func86, Try.ntmps86
        go_wp2_with fail
        go_ret
        exact ⟨by rw [HB.out]; rfl, rfl⟩
    · have HF := Lib.hid (show V.testBit k = false from Nat.testBit_lt_two_pow (Nat.lt_of_lt_of_le hV (by rw [show (18446744073709551616 : Nat) = 2 ^ 64 by decide]; exact Nat.pow_le_pow_right (by omega) (by omega))))
      have p1 : IntKind.u64.wrap (2 ^ min k 64) = 0 := by rw [show min k 64 = 64 by omega]; exact Hps.pow_out (Nat.le_refl _)
      have hand : bits .and .u64 (V : Int) 0 = 0 := by
        have := u64_and_nat V 0 hV (by omega)
        rw [Nat.and_zero] at this
        exact this
      go_enter Try.func86, Try.ntmps86
      go_wp2_with fail
      go_ret
      exact ⟨by rw [HB.out, HF.out]; first | rfl | (simp only [p1, hand]; rfl), rfl⟩
  · have h0' : decide (x ≥ 0) = false := decide_eq_false h0
    have HB := Lib.hid (show Hps.hasB V x = false by simp [Hps.hasB, h0])
    go_enter Try.func86, Try.ntmps86
    go_wp2_with fail
    go_ret
    exact ⟨by rw [HB.out]; rfl, rfl⟩
set_option maxHeartbeats 1000000 in
theorem hasTargets_any (F : Option Addr) (q e V : Nat) (rs : List Int) (w : World) (hf : IS w w.heap.size F q rs) (hV : V < 18446744073709551616) (hq : q ≤ 1099511627776) :
    Calls Try.prog 81 #[.int .u64 V, .slice F q e] w fun e w' => e = .returned (.bool (Hps.okVs V rs)) ∧ w = w' := by
  have hlr := hf.1
  go_enter Try.func81, Try.ntmps81
  go_wp2_with fail
  go_loopw [9] (fun i wr => ∃ k : Nat, k ≤ q ∧ i = .int .i64 k ∧ Hid (∀ j x, j < k → rs[j]? = some x → Hps.okV V x = true) ∧ wr = w) (fun i _ => q - (intOf i).toNat)
  case atStart => exact ⟨0, Nat.zero_le _, rfl, Lib.hid (fun j x hj => by omega), rfl⟩
  case round =>
    obtain ⟨k, hk, rfl, HP, rfl⟩ := hrel
    by_cases hlt : k < q
    · obtain ⟨g, o, x, rfl, hg, hx, c1⟩ := hf.at_ hlt
      have hlt' : (k : Int) < q := by omega
      have HN : Hps.okV V x = true → Hid (∀ j y, j < k + 1 → rs[j]? = some y → Hps.okV V y = true) := fun hok => Lib.hid fun j y hj hy => by
        rcases Nat.lt_or_ge j k with h1 | h1
        · exact HP.out j y h1 hy
        · obtain rfl : j = k := by omega
          rw [hx] at hy
          injection hy with hy
          rw [← hy]
          exact hok
      have HX := Lib.hid hx
      clear hx
      by_cases hm1 : x = -1
      · subst hm1
        have HN2 := HN (by simp [Hps.okV])
        clear HN
        go_wp2_with fail
        go_roundw
        case rel => exact ⟨k + 1, by omega, by go_num, HN2, trivial⟩
        case measure => simp [intOf]; omega
      · have hne : (x != -1) = true := by rw [bne_iff_ne]; exact hm1
        have HEQ := Lib.hid (show Hps.okV V x = Hps.hasB V x by simp [Hps.okV, hm1])
        cases hb : Hps.hasB V x
        · have HR := Lib.hid (Hps.okVs_no HX.out (HEQ.out.trans hb))
          have HB := Lib.hid hb
          clear hb HN
          go_wp2_with fail
          refine (has_any V x _ hV).mono ?_
          rw [HB.out]
          rintro e w1 ⟨rfl, rfl⟩
          go_wp2_with fail
          go_ret
          exact ⟨by rw [HR.out]; rfl, rfl⟩
        · have HN2 := HN (HEQ.out.trans hb)
          have HB := Lib.hid hb
          clear hb HN
          go_wp2_with fail
          refine (has_any V x _ hV).mono ?_
          rw [HB.out]
          rintro e w1 ⟨rfl, rfl⟩
          go_wp2_with fail
          go_roundw
          case rel => exact ⟨k + 1, by omega, by go_num, HN2, trivial⟩
          case measure => simp [intOf]; omega
    · obtain rfl : k = q := by omega
      have HR := Lib.hid (show Hps.okVs V rs = true by
        rw [Hps.okVs_iff]
        intro x hx
        obtain ⟨j, hj⟩ := List.mem_iff_getElem?.1 hx
        exact HP.out j x (by rw [← hlr]; exact (List.getElem?_eq_some_iff.1 hj).1) hj)
      go_wp2_with fail
      go_ret
      exact ⟨by rw [HR.out]; rfl, rfl⟩
set_option maxHeartbeats 1000000 in
theorem usedSet_any (A : Option Addr) (n c : Nat) (cs : List Cl) (w : World) (h : CS w w.heap.size A n cs) (hn : n ≤ 64) :
    Calls Try.prog 52 #[.slice A n c] w fun e w' => e = .returned (.int .u64 (Hps.usedW cs : Nat)) ∧ Below w.heap.size w w' := by
  have hlc := h.1
  obtain ⟨us, hus⟩ : ∃ us, cs.map (·.u) = us := ⟨_, rfl⟩
  have HW := Lib.hid (show Hps.usedW cs = Bm.setN us true n by rw [Hps.usedW, Bm.wordN, hus, ← hus, List.length_map, hlc])
  have HUS := Lib.hid hus
  clear hus
  go_enter Try.func52, Try.ntmps52
  go_wp2_with fail
  go_loopw [3, 8] (fun v i wr => ∃ k : Nat, k ≤ n ∧ i = .int .i64 k ∧ v = .int .u64 (Bm.setN us true k : Nat) ∧ Below w.heap.size w wr) (fun _ i _ => n - (intOf i).toNat)
  case atStart => exact ⟨0, Nat.zero_le _, rfl, rfl, Below.refl _ _⟩
  case round =>
    obtain ⟨k, hk, rfl, rfl, bb⟩ := hrel
    by_cases hlt : k < n
    · obtain ⟨g, o, cl, A', m', cc, rfl, hg, hcl, d1, d2, d3, hmc, hi⟩ := (h.below bb).at_ hlt
      have hlt' : (k : Int) < n := by omega
      have hV := Bm.setN_64 us true (k := k) (by omega)
      obtain ⟨p1, p2, p3⟩ := Hps.pow_in (k := k) (by omega)
      have hor := Hps.or_in (V := Bm.setN us true k) (k := k) hV (by omega)
      have hkneg : ¬ ((k : Int) < 0) := by omega
      have hux : us[k]? = some cl.u := by rw [← HUS.out, List.getElem?_map, hcl]; rfl
      clear hcl
      cases hu : cl.u
      · rw [hu] at d1 hux
        have HN := Lib.hid (show Bm.setN us true (k + 1) = Bm.setN us true k by rw [Bm.setN, if_neg (by rw [hux]; decide)])
        have bW := bb.alloc bb.size (.cells #[.bool false, .int .i64 cl.d, .slice A' m' cc] 45)
        clear hu hux
        go_wp2_with fail
        go_roundw
        case rel => exact ⟨k + 1, by omega, by go_num, by rw [HN.out], bW⟩
        case measure => simp [intOf]; omega
      · rw [hu] at d1 hux
        have HN := Lib.hid (show Bm.setN us true (k + 1) = Bm.setN us true k ||| 2 ^ k by rw [Bm.setN, if_pos hux])
        have bW := bb.alloc bb.size (.cells #[.bool true, .int .i64 cl.d, .slice A' m' cc] 45)
        clear hu hux
        go_wp2_with fail
        go_roundw
        case rel => exact ⟨k + 1, by omega, by go_num, by rw [HN.out], bW⟩
        case measure => simp [intOf]; omega
    · obtain rfl : k = n := by omega
      go_wp2_with fail
      go_ret
      exact ⟨by rw [HW.out]; rfl, bb⟩
set_option maxHeartbeats 1000000 in
theorem cellValid_any (cl : Cl) (A : Option Addr) (m cc V : Nat) (w : World) (hi : IS w w.heap.size A m cl.r) (hV : V < 18446744073709551616) :
    Calls Try.prog 80 #[.agg #[.bool cl.u, .int .i64 cl.d, .slice A m cc], .int .u64 V] w fun e w' => e = .returned (.bool (Hps.okCl V cl)) ∧ Below w.heap.size w w' := by
  have hlr := hi.1
  cases hu : cl.u
  · have bW := (Below.refl w.heap.size w).alloc (Nat.le_refl _) (.cells #[.bool false, .int .i64 cl.d, .slice A m cc] 45)
    have HC := Lib.hid (show Hps.okCl V cl = (cl.d == 0 && decide (m = 0)) by unfold Hps.okCl; rw [if_neg (by rw [hu]; decide), hlr])
    clear hu
    by_cases hd : cl.d = 0
    · have hd' : (cl.d == 0) = true := by rw [beq_iff_eq]; exact hd
      have HD := Lib.hid hd'
      clear hd
      by_cases hm0 : m = 0
      · subst hm0
        go_enter Try.func80, Try.ntmps80
        go_wp2_with fail
        go_ret
        exact ⟨by rw [HC.out, HD.out]; rfl, bW⟩
      · have hm0' : ((m : Int) == 0) = false := by rw [beq_eq_false_iff_ne]; omega
        have HM := Lib.hid (decide_eq_false hm0)
        go_enter Try.func80, Try.ntmps80
        go_wp2_with fail
        go_ret
        exact ⟨by rw [HC.out, HD.out, HM.out]; rfl, bW⟩
    · have hd' : (cl.d == 0) = false := by rw [beq_eq_false_iff_ne]; exact hd
      have HD := Lib.hid hd'
      go_enter Try.func80, Try.ntmps80
      go_wp2_with fail
      go_ret
      exact ⟨by rw [HC.out, HD.out]; rfl, bW⟩
  · have bW := (Below.refl w.heap.size w).alloc (Nat.le_refl _) (.cells #[.bool true, .int .i64 cl.d, .slice A m cc] 45)
    have hiW := (hi.below bW).more bW.size
    have HC := Lib.hid (show Hps.okCl V cl = ((decide (0 ≤ cl.d) && decide (cl.d ≤ 99)) && (decide (m ≤ 3) && Hps.okVs V cl.r)) by unfold Hps.okCl; rw [if_pos hu, hlr])
    clear hu
    by_cases h1 : 0 ≤ cl.d
    · by_cases h2 : cl.d ≤ 99
      · by_cases h3 : m ≤ 3
        · have h3' : (m : Int) ≤ 3 := by omega
          have H := Lib.hid (And.intro (decide_eq_true h1) (And.intro (decide_eq_true h2) (decide_eq_true h3)))
          go_enter Try.func80, Try.ntmps80
          go_wp2_with fail
          refine (hasTargets_any _ _ _ V cl.r _ hiW hV (by omega)).mono ?_
          rintro e w1 ⟨rfl, rfl⟩
          go_wp2_with fail
          go_ret
          exact ⟨by rw [HC.out, H.out.1, H.out.2.1, H.out.2.2]; simp, bW⟩
        · have h3' : ¬ (m : Int) ≤ 3 := by omega
          have H := Lib.hid (decide_eq_false h3)
          go_enter Try.func80, Try.ntmps80
          go_wp2_with fail
          go_ret
          exact ⟨by rw [HC.out, H.out]; simp, bW⟩
      · have H := Lib.hid (decide_eq_false h2)
        go_enter Try.func80, Try.ntmps80
        go_wp2_with fail
        go_ret
        exact ⟨by rw [HC.out, H.out]; simp, bW⟩
    · have H := Lib.hid (decide_eq_false h1)
      go_enter Try.func80, Try.ntmps80
      go_wp2_with fail
      go_ret
      exact ⟨by rw [HC.out, H.out]; simp, bW⟩
end Go.Proofs.Ytakdjiojahlnmaa
namespace Go.Proofs.Ytakdjiojahlnmaa
open Go.RowKit
set_option maxRecDepth 100000
set_option maxHeartbeats 1000000 in
theorem heapValid_any (A R : Option Addr) (n c m d : Nat) (h : Hp) (w : World) (hs : HS w w.heap.size A n R m h) (hn : n ≤ 1099511627776) (hm : m ≤ 1099511627776) (_hc : n ≤ c) (_hd : m ≤ d) :
    Calls Try.prog 39 #[heapV A n c R m d] w fun e w' => e = .returned (.bool (Hps.validH h)) ∧ Below w.heap.size w w' := by
  have hlc := hs.cells.1
  have hlr := hs.roots.1
  have b0 : Below w.heap.size w (w.alloc (.cells #[.slice A n c, .slice R m d] 26)) := (Below.refl _ _).alloc (Nat.le_refl _) _
  by_cases h40 : n ≤ 40
  · by_cases h4 : m = 4
    · subst h4
      have h40' : (n : Int) ≤ 40 := by omega
      have r0 := hs.up b0
      have hw0 := Rw.new w 26 #[.slice A n c, .slice R 4 d]
      have hV := Hps.usedW_lt (cs := h.cs) (by omega)
      have HOR := Lib.hid (Hps.okVs_used h.cs)
      have HOC := Lib.hid (Hps.okCl_used h.cs)
      go_enter Try.func39, Try.ntmps39
      go_wp2_with fail
      refine (usedSet_any _ _ _ h.cs _ r0.cells (by omega)).mono ?_
      rintro e w1 ⟨rfl, b1⟩
      obtain ⟨V, hVe⟩ : ∃ V, Hps.usedW h.cs = V := ⟨_, rfl⟩
      rw [hVe] at hV HOR HOC ⊢
      have bb1 := b0.trans (b1.mono b0.size)
      have hw1 := hw0.keep b1 (by simp)
      clear r0 hw0 hVe b1
      have z0 : w1.cell? ⟨w.heap.size, 0, none⟩ = some (.slice A n c) := hw1.cell 0
      go_wp2_with fail
      go_loopw [22] (fun i wr => ∃ k : Nat, k ≤ n ∧ i = .int .i64 k ∧ Hid (∀ j cl, j < k → h.cs[j]? = some cl → Hps.okCell h.cs cl = true) ∧ Below w.heap.size w wr ∧ Rw wr w.heap.size 26 #[.slice A n c, .slice R 4 d]) (fun i _ => n - (intOf i).toNat)
      case atStart => exact ⟨0, Nat.zero_le _, rfl, Lib.hid (fun j x hj => by omega), bb1, hw1⟩
      case round =>
        clear bb1 hw1 z0
        obtain ⟨k, hk, rfl, HP, bb, hw⟩ := hrel
        have z1 : wr.cell? ⟨w.heap.size, 1, none⟩ = some (.slice R 4 d) := hw.cell 1
        by_cases hlt : k < n
        · obtain ⟨g, o, cl, A', m', cc, e1, hg, hcl, d1, d2, d3, hmc, hi⟩ := hs.cells.at_ hlt
          subst e1
          replace d1 := (bb.cell (p := ⟨g, o + k * 3, none⟩) hg).trans d1
          replace d2 := (bb.cell (p := ⟨g, o + k * 3 + 1, none⟩) hg).trans d2
          replace d3 := (bb.cell (p := ⟨g, o + k * 3 + 2, none⟩) hg).trans d3
          have hlt' : (k : Int) < n := by omega
          have HCL := Lib.hid hcl
          have HM := Lib.hid hi.1
          have bW := bb.alloc bb.size (.cells #[.bool cl.u, .int .i64 cl.d, .slice A' m' cc] 45)
          have hwW := hw.alloc (.cells #[.bool cl.u, .int .i64 cl.d, .slice A' m' cc] 45)
          have hiW := (hi.below bW).more bW.size
          clear hcl
          go_wp2_with fail
          refine (cellValid_any cl A' m' cc V _ hiW hV).mono ?_
          rw [HOC.out]
          cases hok : Hps.okCell h.cs cl
          · have HR := Lib.hid (Hps.invalid_cell HCL.out hok)
            rintro e w2 ⟨rfl, b2⟩
            have bn := bW.trans (b2.mono bW.size)
            go_wp2_with fail
            go_ret
            exact ⟨by rw [HR.out]; rfl, bn⟩
          · have HN : Hid (∀ j c', j < k + 1 → h.cs[j]? = some c' → Hps.okCell h.cs c' = true) := Lib.hid fun j y hj hy => by
              rcases Nat.lt_or_ge j k with h1 | h1
              · exact HP.out j y h1 hy
              · obtain rfl : j = k := by omega
                rw [HCL.out] at hy
                injection hy with hy
                rw [← hy]
                exact hok
            clear hok
            rintro e w2 ⟨rfl, b2⟩
            have bn := bW.trans (b2.mono bW.size)
            have hwn := hwW.keep b2 hwW.lt
            go_wp2_with fail
            go_roundw
            case rel => exact ⟨k + 1, by omega, by go_num, HN, bn, hwn⟩
            case measure => simp [intOf]; omega
        · obtain rfl : k = n := by omega
          have hall : ∀ cl ∈ h.cs, Hps.okCell h.cs cl = true := fun cl hcl => by
            obtain ⟨j, hj⟩ := List.mem_iff_getElem?.1 hcl
            exact HP.out j cl (by rw [← hlc]; exact (List.getElem?_eq_some_iff.1 hj).1) hj
          have HR := Lib.hid (show Hps.validH h = Hps.okRefs h.cs h.rt by rw [Hps.valid_all hall, hlc, hlr, decide_eq_true h40]; simp)
          have rr := (hs.roots.below bb).more bb.size
          clear hall
          go_wp2_with fail
          refine (hasTargets_any _ _ _ V h.rt _ rr hV (by omega)).mono ?_
          rintro e w2 ⟨rfl, rfl⟩
          go_wp2_with fail
          go_ret
          exact ⟨by rw [HR.out, ← HOR.out]; rfl, bb⟩
    · have h40' : (n : Int) ≤ 40 := by omega
      have h4' : ((m : Int) != 4) = true := by rw [bne_iff_ne]; omega
      have HR := Lib.hid (show Hps.validH h = false by
        cases hv : Hps.validH h
        · rfl
        · have := (Hps.valid_iff.1 hv).2.2.1
          omega)
      clear h4
      go_enter Try.func39, Try.ntmps39
      go_wp2_with fail
      go_ret
      exact ⟨by rw [HR.out]; rfl, b0⟩
  · have h40' : ¬ (n : Int) ≤ 40 := by omega
    have h40'' : (40 : Int) < n := by omega
    have HR := Lib.hid (show Hps.validH h = false by
      cases hv : Hps.validH h
      · rfl
      · have := (Hps.valid_iff.1 hv).2.1
        omega)
    go_enter Try.func39, Try.ntmps39
    go_wp2_with fail
    go_ret
    exact ⟨by rw [HR.out]; rfl, b0⟩
end Go.Proofs.Ytakdjiojahlnmaa

namespace Go.Proofs.Ytakdjiojahlnmaa
open Go.RowKit
set_option maxRecDepth 100000
namespace Hps
theorem pc_succ (V k : Nat) : pcN V (k + 1) = pcN V k + (if V.testBit k = true then 1 else 0) := by
  unfold pcN
  rw [List.range_succ, List.countP_append, List.countP_singleton]
theorem pc_same {V W n : Nat} (h : ∀ i, i < n → V.testBit i = W.testBit i) : pcN V n = pcN W n := by
  unfold pcN
  apply List.countP_congr
  intro i hi
  rw [h i (List.mem_range.1 hi)]
theorem or_bit (V k i : Nat) : (V ||| 2 ^ k).testBit i = (V.testBit i || decide (k = i)) := by rw [Nat.testBit_or, Nat.testBit_two_pow]
theorem pc_mark {V k : Nat} (h : V.testBit k = false) : ∀ {n : Nat}, k < n → pcN (V ||| 2 ^ k) n = pcN V n + 1
  | 0, hn => by omega
  | n + 1, hn => by
    rw [pc_succ, pc_succ, or_bit]
    by_cases e : k = n
    · subst e
      rw [h, pc_same (W := V) fun i hi => by rw [or_bit, decide_eq_false (show ¬ k = i by omega), Bool.or_false]]
      simp
    · rw [pc_mark h (show k < n by omega), decide_eq_false e, Bool.or_false]
      omega
/-- cells and references into them: small, and each -1 or the number of a used cell -/
structure OkG (h : Hp) : Prop where
  len : h.cs.length ≤ 40
  few : h.rt.length ≤ 40
  small : ∀ c ∈ h.cs, c.r.length ≤ 3
  rts : okRefs h.cs h.rt = true
  rfs : ∀ c ∈ h.cs, okRefs h.cs c.r = true
theorem OkG.valid {h : Hp} (hv : validH h = true) : OkG h := ⟨(valid_small hv).1, by rw [(valid_small hv).2.1]; omega, (valid_small hv).2.2, (valid_iff.1 hv).2.2.2, valid_refs hv⟩
theorem OkG.one {h : Hp} (hv : OkG h) {k : Nat} (hk : usedAt h.cs k = true) : OkG ⟨h.cs, [(k : Int)]⟩ :=
  ⟨hv.len, by simp, hv.small, okRefs_iff.2 fun x hx => by rw [List.mem_singleton] at hx; subst hx; exact okRef_iff.2 (.inr ⟨by omega, by simpa using hk⟩), hv.rfs⟩
/-- a work list beside the set of what has been reached -/
structure Stk (h : Hp) (V : Nat) (l : List Int) : Prop where
  lo : V < 2 ^ h.cs.length
  rch : ∀ k : Nat, V.testBit k = true → Rch h.cs h.rt k
  lst : ∀ x ∈ l, x = -1 ∨ ∃ k : Nat, x = k ∧ Rch h.cs h.rt k
  roots : ∀ k : Nat, (k : Int) ∈ h.rt → V.testBit k = true ∨ (k : Int) ∈ l
  step : ∀ (k m : Nat) (c : Cl), V.testBit k = true → h.cs[k]? = some c → (m : Int) ∈ c.r → V.testBit m = true ∨ (m : Int) ∈ l
  len : l.length ≤ 40 + 4 * pcN V h.cs.length
theorem Stk.start {h : Hp} (hv : OkG h) : Stk h 0 h.rt := by
  refine ⟨Nat.pow_pos (by omega), fun k hk => by simp at hk, fun x hx => ?_, fun k hk => .inr hk, fun k m c hk => by simp at hk, by have := hv.few; omega⟩
  rcases okRef_iff.1 (okRefs_iff.1 hv.rts x hx) with h1 | ⟨h1, _⟩
  · exact .inl h1
  · exact .inr ⟨x.toNat, by omega, .root (by rwa [show ((x.toNat : Nat) : Int) = x by omega])⟩
/-- the last of the list is nothing new -/
theorem Stk.pop {h : Hp} {V : Nat} {l : List Int} {x : Int} (s : Stk h V (l ++ [x])) (hx : x = -1 ∨ hasB V x = true) : Stk h V l := by
  have hm : ∀ k : Nat, (k : Int) ∈ l ++ [x] → V.testBit k = true ∨ (k : Int) ∈ l := fun k hk => by
    rw [List.mem_append, List.mem_singleton] at hk
    rcases hk with hk | hk
    · exact .inr hk
    · left
      rcases hx with h1 | h1
      · omega
      · subst hk
        simpa [hasB] using h1
  refine ⟨s.lo, s.rch, fun y hy => s.lst y (by simp [hy]), fun k hk => ?_, fun k m c h1 h2 h3 => ?_, by have := s.len; simp at this; omega⟩
  · rcases s.roots k hk with h1 | h1
    · exact .inl h1
    · exact hm k h1
  · rcases s.step k m c h1 h2 h3 with h1 | h1
    · exact .inl h1
    · exact hm m h1
/-- the last of the list is a cell that had not been reached -/
theorem Stk.mark {h : Hp} (hv : OkG h) {V k : Nat} {l : List Int} {c : Cl} (s : Stk h V (l ++ [(k : Int)])) (hk : V.testBit k = false) (hc : h.cs[k]? = some c) : Stk h (V ||| 2 ^ k) (l ++ c.r) := by
  have hlt : k < h.cs.length := (List.getElem?_eq_some_iff.1 hc).1
  have hr : Rch h.cs h.rt k := by
    rcases s.lst (k : Int) (by simp) with h1 | ⟨j, h1, h2⟩
    · omega
    · rwa [show k = j by omega]
  have hm : ∀ j : Nat, V.testBit j = true ∨ (j : Int) ∈ l ++ [(k : Int)] → (V ||| 2 ^ k).testBit j = true ∨ (j : Int) ∈ l ++ c.r := fun j hj => by
    rw [or_bit]
    rcases hj with hj | hj
    · left; rw [hj]; rfl
    · rw [List.mem_append, List.mem_singleton] at hj
      rcases hj with hj | hj
      · right; simp [hj]
      · left; simp; right; omega
  refine ⟨Nat.or_lt_two_pow s.lo (Nat.pow_lt_pow_right (by omega) hlt), fun j hj => ?_, fun x hx => ?_, fun j hj => hm j (s.roots j hj), fun j m c' h1 h2 h3 => ?_, ?_⟩
  · rw [or_bit] at hj
    rw [Bool.or_eq_true, decide_eq_true_eq] at hj
    rcases hj with hj | hj
    · exact s.rch j hj
    · rwa [← hj]
  · rw [List.mem_append] at hx
    rcases hx with hx | hx
    · exact s.lst x (by simp [hx])
    · rcases okRef_iff.1 (okRefs_iff.1 (hv.rfs c (List.mem_of_getElem? hc)) x hx) with h1 | ⟨h1, _⟩
      · exact .inl h1
      · exact .inr ⟨x.toNat, by omega, .step hr hc (by rwa [show ((x.toNat : Nat) : Int) = x by omega])⟩
  · rw [or_bit, Bool.or_eq_true, decide_eq_true_eq] at h1
    rcases h1 with h1 | h1
    · exact hm m (s.step j m c' h1 h2 h3)
    · subst h1
      rw [hc] at h2
      injection h2 with h2
      subst h2
      right
      simp [h3]
  · rw [pc_mark hk hlt]
    have := s.len
    have h3 := hv.small c (List.mem_of_getElem? hc)
    simp at this
    simp
    omega
/-- a cell of the list is there -/
theorem Stk.at_ {h : Hp} (hv : OkG h) {V : Nat} {l : List Int} {x : Int} (s : Stk h V (l ++ [x])) (h1 : x ≠ -1) : ∃ k : Nat, x = k ∧ k < h.cs.length := by
  rcases s.lst x (by simp) with h2 | ⟨k, h2, h3⟩
  · exact absurd h2 h1
  · exact ⟨k, h2, usedAt_lt (h3.used hv.rts hv.rfs)⟩
/-- the set of what can be reached -/
noncomputable def reachW (h : Hp) : Nat := Bm.wordN (reachL h.cs h.rt) true
theorem reachW_lt {h : Hp} (hn : h.cs.length ≤ 64) : reachW h < 18446744073709551616 := Bm.wordN_lt _ _ (by rw [reachL_len]; exact hn)
theorem Stk.fin {h : Hp} {V : Nat} (s : Stk h V []) : V = reachW h := by
  apply Nat.eq_of_testBit_eq
  intro k
  unfold reachW
  rw [Bm.wordN_bit, Bool.eq_iff_iff, decide_eq_true_eq]
  rcases Nat.lt_or_ge k h.cs.length with hk | hk
  · rw [reachL_true hk]
    refine ⟨s.rch k, fun hr => Rch.inside (S := fun k => V.testBit k = true) (fun j hj => ?_) (fun j m c h1 h2 h3 => ?_) hr⟩
    · simpa using s.roots j hj
    · simpa using s.step j m c h1 h2 h3
  · have e1 : V.testBit k = false := Nat.testBit_lt_two_pow (Nat.lt_of_lt_of_le s.lo (Nat.pow_le_pow_right (by omega) hk))
    rw [e1, List.getElem?_eq_none (by rw [reachL_len]; exact hk)]
    simp
end Hps
namespace Pc
end Pc
end Go.Proofs.Ytakdjiojahlnmaa

namespace Go.Proofs.Ytakdjiojahlnmaa
open Go.RowKit
set_option maxRecDepth 100000
theorem cloneI_any (A : Option Addr) (n c : Nat) (xs : List Int) (w : World) (h : IS w w.heap.size A n xs) (hn : n ≤ 1099511627776) :
    Calls Try.prog 83 #[.slice A n c] w (GaveI w xs) := by
  have q : ∀ (w : World) (a : Option Addr) (n c n' c' : Nat), (binOp .eql 24 (.slice a n c) (.slice none n' c')).run Try.prog w = .ok (.bool a.isNone) w := fun w a n c n' c' => Lib.run_eql_slice_nil w _ _ a n c n' c' Try.underlying24
  cases A with
  | none =>
    have h0 : n = 0 := by
      rcases Nat.eq_zero_or_pos n with h0 | h0
      · exact h0
      · obtain ⟨g, o, e, _⟩ := h.2 h0
        cases e
    have : xs = [] := List.eq_nil_of_length_eq_zero (h.1.trans h0)
    subst this h0
    go_enter Try.func83, Try.ntmps83
    go_wp2
    go_ret
    exact ⟨_, rfl, World.ownsRow_nil _ _ _ _, Below.refl _ _⟩
  | some a =>
    have o0 := own_noneI w w.heap.size (Nat.le_refl _)
    have bl0 : Below w.heap.size w (w.alloc (.cells #[] 3)) := (Below.refl _ _).alloc (Nat.le_refl _) _
    have r0 := h.below bl0
    go_enter Try.func83, Try.ntmps83
    go_wp2_with (at_builtin; refine wpList_appendI rfl (.tmp 5) (.tmp 6) rfl w.heap.size _ [] rfl o0 (some a) n c w.heap.size xs rfl r0 (by simp <;> omega) (by simp) ?_; intro v1 w1 o1 g1 s1)
    go_ret
    exact ⟨_, rfl, OwnI.cast (by simp) o1, bl0.grown g1 (by simp) (fun k hk => (World.ownsRow.lt o0 k hk).1)⟩
/-- a slice of the call's own is cut short -/
theorem OwnI.cut {w : World} {base n c k : Nat} {A : Option Addr} {xs : List Int} (h : OwnI w base (.slice A n c) xs) (hk : k ≤ n) : OwnI w base (.slice A k c) (xs.take k) := by
  have hl : (xs.take k).length = k := by rw [List.length_take, ← h.cap.1]; omega
  unfold OwnI
  rw [hl]
  refine ⟨by rw [List.length_map, hl, Nat.mul_one], ?_⟩
  rcases h.2 with ⟨e, h0⟩ | ⟨g, cap, cur, e, hb, hh, hnc, hcap, hsz, hx⟩
  · injection e with e1 e2 e3
    subst e1 e3
    left
    have : k = 0 := by omega
    rw [this]
    exact ⟨rfl, rfl⟩
  · injection e with e1 e2 e3
    subst e1 e3
    right
    refine ⟨g, c, cur, rfl, hb, hh, by omega, hcap, hsz, ?_⟩
    rw [List.map_take, ← hx, Nat.mul_one, Nat.mul_one, List.take_take, Nat.min_eq_left (by omega)]
namespace Hps
/-- the first k of n cells as bools, the others false -/
def flagL (V n k : Nat) : List Bool := (List.range k).map V.testBit ++ List.replicate (n - k) false
theorem flagL_len {V n k : Nat} (h : k ≤ n) : (flagL V n k).length = n := by simp [flagL]; omega
theorem flagL_zero (V n : Nat) : flagL V n 0 = List.replicate n false := by simp [flagL]
theorem flagL_end (V n : Nat) : flagL V n n = (List.range n).map V.testBit := by simp [flagL]
theorem flagL_succ {V n k : Nat} (h : k < n) : (flagL V n k).set k (V.testBit k) = flagL V n (k + 1) := by
  apply List.ext_getElem?
  intro i
  unfold flagL
  rw [List.getElem?_set, List.length_append, List.length_map, List.length_range, List.length_replicate]
  rcases Nat.lt_trichotomy i k with h1 | h1 | h1
  · rw [if_neg (by omega), List.getElem?_append_left (by simp; omega), List.getElem?_append_left (by simp; omega), List.getElem?_map, List.getElem?_map, List.getElem?_range h1, List.getElem?_range (by omega)]
  · subst h1
    rw [if_pos rfl, if_pos (by omega), List.getElem?_append_left (by simp), List.getElem?_map, List.getElem?_range (by omega)]
    rfl
  · rw [if_neg (by omega), List.getElem?_append_right (by simp; omega), List.getElem?_append_right (by simp; omega)]
    simp only [List.length_map, List.length_range, List.getElem?_replicate]
    congr 1
    apply propext
    omega
end Hps
set_option maxHeartbeats 1000000 in
theorem cflags_any (V n : Nat) (w : World) (hV : V < 18446744073709551616) (hn : n ≤ 64) :
    Calls Try.prog 49 #[.int .u64 V, .int .i64 n] w (GaveO w ((List.range n).map V.testBit)) := by
  have hmk := makeO w n (by omega)
  have o2 := own_madeO w n (by omega)
  have b2 : Below w.heap.size w (w.alloc (.cells (Array.replicate n (.bool false)) 4)) := (Below.refl _ _).alloc (Nat.le_refl _) _
  obtain ⟨w2, hw2⟩ : ∃ w2, w.alloc (.cells (Array.replicate n (.bool false)) 4) = w2 := ⟨_, rfl⟩
  rw [hw2] at hmk o2 b2
  rw [← Hps.flagL_zero V n] at o2
  have HE := Lib.hid (Hps.flagL_end V n)
  clear hw2
  go_enter Try.func49, Try.ntmps49
  go_wp2
  clear hmk
  go_loopw [11] (fun i wr => ∃ k : Nat, k ≤ n ∧ i = .int .i64 k ∧ OwnO wr w.heap.size (.slice (some ⟨w.heap.size, 0, none⟩) n n) (Hps.flagL V n k) ∧ Below w.heap.size w wr) (fun i _ => n - (intOf i).toNat)
  case atStart => exact ⟨0, Nat.zero_le _, rfl, o2, b2⟩
  case round =>
    clear o2 b2
    obtain ⟨k, hk, rfl, ho, hb⟩ := hrel
    have hlen := Hps.flagL_len (V := V) hk
    by_cases hlt : k < n
    · have fz : wr.frozen? ⟨w.heap.size, k, none⟩ = false := ho.frozen hlen k
      obtain ⟨g', o', x, e', _, _, c1⟩ := ho.reads.at_ (k := k) (by omega)
      injection e' with e'
      injection e' with e1 e2
      subst e1 e2
      rw [Nat.zero_add] at c1
      have t1 : (k : Int) < n := by omega
      have on := OwnO.cast (Hps.flagL_succ (V := V) hlt) (ho.put' (j := k) hlen (V.testBit k))
      have bn := hb.setCell (p := ⟨w.heap.size, k, none⟩) (Nat.le_refl _) (.bool (V.testBit k))
      have HB := Lib.hid (show Hps.hasB V (k : Int) = V.testBit k by simp [Hps.hasB])
      clear ho hlen
      go_wp2_with fail
      refine (has_any V k _ hV).mono ?_
      rw [HB.out]
      obtain ⟨b, hbe⟩ : ∃ b, V.testBit k = b := ⟨_, rfl⟩
      rw [hbe] at on bn ⊢
      clear hbe HB
      rintro e w3 ⟨rfl, rfl⟩
      go_wp2_with fail
      go_roundw
      case rel => exact ⟨k + 1, by omega, by go_num, on, bn⟩
      case measure => simp [intOf]; omega
    · obtain rfl : k = n := by omega
      clear hlen
      go_wp2_with fail
      go_ret
      exact ⟨_, rfl, OwnO.cast HE.out ho, hb⟩
/-- what a round of the work list leaves to do -/
def stkLeft (n : Nat) : Value → Value → Nat
  | .int _ V, .slice _ m _ => m + 4 * (n - pcN V.toNat n)
  | _, _ => 0
set_option maxHeartbeats 2000000 in
theorem ledTo_any (A R : Option Addr) (n c m d : Nat) (h : Hp) (w : World) (hcs : CS w w.heap.size A n h.cs) (hrs : IS w w.heap.size R m h.rt) (hv : Hps.OkG h) :
    Calls Try.prog 84 #[.slice A n c, .slice R m d] w fun e w' => e = .returned (.int .u64 (Hps.reachW h : Nat)) ∧ Below w.heap.size w w' := by
  have hlc := hcs.1
  have s1 := hv.len
  have hmf := hv.few
  have hm4 := hrs.1
  have HV := Lib.hid hv
  have HS3 := Lib.hid hv.small
  have HS := Lib.hid (Hps.Stk.start hv)
  clear hv
  go_enter Try.func84, Try.ntmps84
  go_wp2_with fail
  refine (cloneI_any _ _ _ h.rt _ hrs (by omega)).mono ?_
  rintro e w1 ⟨v1, rfl, o1, b1⟩
  go_wp2_with fail
  go_loopw [5, 6] (fun v lv wr => ∃ (V : Nat) (l : List Int), v = .int .u64 V ∧ Hid (Hps.Stk h V l) ∧ OwnI wr w.heap.size lv l ∧ Below w.heap.size w wr) (fun v lv _ => stkLeft n v lv)
  case atStart => exact ⟨0, h.rt, rfl, HS, o1, b1⟩
  case round =>
    clear HS o1 b1
    obtain ⟨V, l, rfl, HST, ow, bb⟩ := hrel
    have hz := bb.size
    have hpc := Pc.pc_le V n
    have hll := HST.out.len
    rw [hlc] at hll
    have hV : V < 18446744073709551616 := Nat.lt_of_lt_of_le HST.out.lo (Bm.pow64 (by omega))
    obtain ⟨A1, c1, e1, _⟩ := ow.form
    subst e1
    have hcap := ow.cap.2
    rcases List.eq_nil_or_concat l with hl | ⟨l', x, hl⟩
    · subst hl
      have HF := Lib.hid HST.out.fin
      go_wp2_with fail
      go_ret
      exact ⟨by rw [← HF.out]; rfl, bb⟩
    · rw [List.concat_eq_append] at hl
      subst hl
      have hlen : (l' ++ [x]).length = l'.length + 1 := by simp
      rw [hlen] at ow hcap hll ⊢
      obtain ⟨g6, o6, y, e6, hg6, hy, d6⟩ := ow.reads.at_ (k := l'.length) (by omega)
      subst e6
      have hyx : y = x := by simpa using hy.symm
      subst hyx
      have hL : ((l'.length + 1 : Nat) : Int) = (l'.length : Int) + 1 := by omega
      have oc := OwnI.cast (show (l' ++ [y]).take l'.length = l' by simp) (ow.cut (k := l'.length) (by omega))
      obtain ⟨q, hq⟩ : ∃ q, l'.length = q := ⟨_, rfl⟩
      have HQ := Lib.hid hq
      rw [hq] at d6 hcap hll hL oc ⊢
      have hqc : (q : Int) ≤ c1 := by omega
      have hq0 : (q : Int) + 1 > 0 := by omega
      have hw64 : IntKind.i64.wrap ((q : Int) + 1 - 1) = q := by rw [IntWalk.i64_in _ (by omega)]; omega
      clear hlen hy hq ow
      by_cases hm1 : y = -1
      · subst hm1
        have HP := Lib.hid (HST.out.pop (.inl rfl))
        go_wp2_with fail
        go_roundw
        case rel => exact ⟨V, l', rfl, HP, oc, bb⟩
        case measure => simp [stkLeft]
      · have hne : (y == -1) = false := by rw [beq_eq_false_iff_ne]; exact hm1
        obtain ⟨k, hk, hkn⟩ := HST.out.at_ HV.out hm1
        rw [hlc] at hkn
        subst hk
        have HB := Lib.hid (show Hps.hasB V (k : Int) = V.testBit k by simp [Hps.hasB])
        clear hm1
        cases hbit : V.testBit k
        · obtain ⟨g, o, cl, A', m', cc, e1, hg, hcl, _, _, d3, hmc, hi⟩ := hcs.at_ hkn
          subst e1
          have d3' := (bb.cell (p := ⟨g, o + k * 3 + 2, none⟩) hg).trans d3
          have hm3 : m' ≤ 3 := by have := HS3.out cl (List.mem_of_getElem? hcl); have := hi.1; omega
          have rr := (hi.below bb).more bb.size
          have HM := Lib.hid (HST.out.mark HV.out hbit hcl)
          have HPC := Lib.hid (Hps.pc_mark hbit hkn)
          have hpc1 : pcN (V ||| 2 ^ k) n ≤ n := Pc.pc_le _ _
          rw [HPC.out] at hpc1
          have hkn' : (k : Int) < n := by omega
          have hkneg : ¬ ((k : Int) < 0) := by omega
          obtain ⟨p1, p2, p3⟩ := Hps.pow_in (k := k) (by omega)
          have hor := Hps.or_in (V := V) (k := k) hV (by omega)
          have HBF := Lib.hid (HB.out.trans hbit)
          have hqm : l'.length + m' ≤ 1099511627776 := by rw [HQ.out]; omega
          have HI := Lib.hid hi.1
          clear hcl d3 hbit HB HST
          go_wp2_with fail
          refine (has_any V k _ hV).mono ?_
          rw [HBF.out]
          rintro e w3 ⟨rfl, rfl⟩
          go_wp2_with (at_builtin; refine wpList_appendI rfl (.tmp 35) (.tmp 40) rfl w.heap.size _ l' rfl oc A' m' cc _ cl.r rfl rr hqm hz ?_; intro v5 w5 o5 g5 s5)
          have b5 := bb.grown g5 (by omega) (fun kk hk => by have := (World.ownsRow.lt oc kk hk).1; omega)
          obtain ⟨A5, c5, e5, _⟩ := o5.form
          subst e5
          go_roundw
          case rel => exact ⟨V ||| 2 ^ k, _, rfl, HM, o5, b5⟩
          case measure =>
            have hL5 : (l' ++ cl.r).length = q + m' := by rw [List.length_append, HQ.out, HI.out]
            simp [stkLeft, HPC.out, HQ.out, HI.out]
            omega
        · have HP := Lib.hid (HST.out.pop (.inr (HB.out.trans hbit)))
          have HBT := Lib.hid (HB.out.trans hbit)
          clear hbit HB HST
          go_wp2_with fail
          refine (has_any V k _ hV).mono ?_
          rw [HBT.out]
          rintro e w3 ⟨rfl, rfl⟩
          go_wp2_with fail
          go_roundw
          case rel => exact ⟨V, l', rfl, HP, oc, bb⟩
          case measure => simp [stkLeft]
theorem reachedSet_any (A R : Option Addr) (n c m d : Nat) (h : Hp) (w : World) (hs : HS w w.heap.size A n R m h) (hv : Hps.validH h = true) :
    Calls Try.prog 41 #[heapV A n c R m d] w fun e w' => e = .returned (.int .u64 (Hps.reachW h : Nat)) ∧ Below w.heap.size w w' := by
  have HV := Lib.hid (Hps.OkG.valid hv)
  have b0 : Below w.heap.size w (w.alloc (.cells #[.slice A n c, .slice R m d] 26)) := (Below.refl _ _).alloc (Nat.le_refl _) _
  have r0 := hs.up b0
  clear hv
  go_enter Try.func41, Try.ntmps41
  go_wp2_with fail
  refine (ledTo_any A R n c m d h _ r0.cells r0.roots HV.out).mono ?_
  rintro e w1 ⟨rfl, b1⟩
  have bb1 := b0.trans (b1.mono b0.size)
  go_wp2_with fail
  go_ret
  exact ⟨rfl, bb1⟩
end Go.Proofs.Ytakdjiojahlnmaa

namespace Go.Proofs.Ytakdjiojahlnmaa
open Go.RowKit
set_option maxRecDepth 100000
/-- k times -1, then 0 -/
def rep4 (k : Nat) : List Value := List.replicate k (.int .i64 (-1)) ++ List.replicate (4 - k) (.int .i64 0)
def RowK (w : World) (g k : Nat) : Prop := w.heap[g]? = some (.cells (rep4 k).toArray 3 (0, 0))
theorem RowK.cell {w : World} {g k j : Nat} (h : RowK w g k) (hj : j < k) : w.cell? ⟨g, j, none⟩ = some (.int .i64 (-1)) := by
  have : (rep4 k)[j]? = some (.int .i64 (-1)) := by
    unfold rep4
    rw [List.getElem?_append_left (by simpa using hj)]
    simp [hj]
  have e : w.cell? ⟨g, j, none⟩ = (rep4 k).toArray[j]? := Rw.cell (cs := (rep4 k).toArray) h j
  rw [e]
  simpa using this
theorem RowK.put {w : World} {g k : Nat} (h : RowK w g k) (j : Nat) : RowK (w.setRow g (rep4 j).toArray) g j := setRow_heap w g _ _ _ _ h
end Go.Proofs.Ytakdjiojahlnmaa

namespace Go.Proofs.Ytakdjiojahlnmaa
open Go.RowKit
set_option maxRecDepth 100000
namespace Hps
end Hps
end Go.Proofs.Ytakdjiojahlnmaa

namespace Go.Proofs.Ytakdjiojahlnmaa
open Go.RowKit
set_option maxRecDepth 100000
namespace Hps
end Hps
end Go.Proofs.Ytakdjiojahlnmaa

namespace Go.Proofs.Ytakdjiojahlnmaa
open Go.RowKit
set_option maxRecDepth 100000
namespace Hps
theorem not_bit {U i : Nat} (hU : U < 18446744073709551616) (hi : i < 64) : (18446744073709551615 - U).testBit i = !U.testBit i := by
  rw [show 18446744073709551615 - U = 2 ^ 64 - (U + 1) by omega, Nat.testBit_two_pow_sub_succ (by omega)]
  simp [hi]
end Hps
set_option maxHeartbeats 1000000 in
theorem flaggedSet_any (A : Option Addr) (n c : Nat) (bs : List Bool) (w : World) (h : OS w w.heap.size A n bs) (hn : n ≤ 64) :
    Calls Try.prog 51 #[.slice A n c] w fun e w' => e = .returned (.int .u64 (Bm.wordN bs true : Nat)) ∧ w = w' := by
  have hlb := h.1
  have HW := Lib.hid (show Bm.wordN bs true = Bm.setN bs true n by rw [Bm.wordN, hlb])
  go_enter Try.func51, Try.ntmps51
  go_wp2_with fail
  go_loopw [3, 8] (fun v i wr => ∃ k : Nat, k ≤ n ∧ i = .int .i64 k ∧ v = .int .u64 (Bm.setN bs true k : Nat) ∧ wr = w) (fun _ i _ => n - (intOf i).toNat)
  case atStart => exact ⟨0, Nat.zero_le _, rfl, rfl, rfl⟩
  case round =>
    obtain ⟨k, hk, rfl, rfl, rfl⟩ := hrel
    by_cases hlt : k < n
    · obtain ⟨g, o, b, rfl, hg, hb, d1⟩ := h.at_ hlt
      have hlt' : (k : Int) < n := by omega
      have hV := Bm.setN_64 bs true (k := k) (by omega)
      obtain ⟨p1, p2, p3⟩ := Hps.pow_in (k := k) (by omega)
      have hor := Hps.or_in (V := Bm.setN bs true k) (k := k) hV (by omega)
      have hkneg : ¬ ((k : Int) < 0) := by omega
      cases b
      · have HN := Lib.hid (show Bm.setN bs true (k + 1) = Bm.setN bs true k by rw [Bm.setN, if_neg (by rw [hb]; decide)])
        clear hb
        go_wp2_with fail
        go_roundw
        case rel => exact ⟨k + 1, by omega, by go_num, by rw [HN.out], trivial⟩
        case measure => simp [intOf]; omega
      · have HN := Lib.hid (show Bm.setN bs true (k + 1) = Bm.setN bs true k ||| 2 ^ k by rw [Bm.setN, if_pos hb])
        clear hb
        go_wp2_with fail
        go_roundw
        case rel => exact ⟨k + 1, by omega, by go_num, by rw [HN.out], trivial⟩
        case measure => simp [intOf]; omega
    · obtain rfl : k = n := by omega
      go_wp2_with fail
      go_ret
      exact ⟨by rw [HW.out]; rfl, rfl⟩
end Go.Proofs.Ytakdjiojahlnmaa

namespace Go.Proofs.Ytakdjiojahlnmaa
open Go.RowKit
set_option maxRecDepth 100000
theorem Hps.holds_iff {V U : Nat} (hV : V < 18446744073709551616) (hU : U < 18446744073709551616) : U &&& (18446744073709551615 - V) = 0 ↔ ∀ k, U.testBit k = true → V.testBit k = true := by
  constructor
  · intro e k hk
    have h1 : (U &&& (18446744073709551615 - V)).testBit k = false := by rw [e]; simp
    have hk64 : k < 64 := by
      rcases Nat.lt_or_ge k 64 with h | h
      · exact h
      · rw [Nat.testBit_lt_two_pow (Nat.lt_of_lt_of_le hU (Nat.pow_le_pow_right (n := 2) (by omega) h))] at hk
        cases hk
    rw [Nat.testBit_and, Hps.not_bit hV hk64, hk] at h1
    simpa using h1
  · intro h
    refine Bm.zero_bits fun k => ?_
    rw [Nat.testBit_and]
    cases e : U.testBit k with
    | false => simp
    | true =>
      have hk64 : k < 64 := by
        rcases Nat.lt_or_ge k 64 with h | h
        · exact h
        · rw [Nat.testBit_lt_two_pow (Nat.lt_of_lt_of_le hU (Nat.pow_le_pow_right (n := 2) (by omega) h))] at e
          cases e
      rw [Hps.not_bit hV hk64, h k e]
      rfl
theorem holds_any (V U : Nat) (w : World) (hV : V < 18446744073709551616) (hU : U < 18446744073709551616) :
    Calls Try.prog 53 #[.int .u64 V, .int .u64 U] w fun e w' => e = .returned (.bool (decide (U &&& (18446744073709551615 - V) = 0))) ∧ w = w' := by
  have HAN := u64_andNot_nat U V hU hV
  obtain ⟨r, hr⟩ : ∃ r, U &&& (18446744073709551615 - V) = r := ⟨_, rfl⟩
  rw [hr] at HAN ⊢
  have HD : ((r : Int) == 0) = decide (r = 0) := by
    by_cases h : r = 0
    · subst h
      rfl
    · rw [decide_eq_false h, beq_eq_false_iff_ne]
      omega
  clear hr
  go_enter Try.func53, Try.ntmps53
  go_wp2_with fail
  go_ret
  simp
theorem firstCells_any (k : Nat) (w : World) (hk : k < 64) :
    Calls Try.prog 54 #[.int .i64 k] w fun e w' => e = .returned (.int .u64 ((2 ^ k - 1 : Nat) : Int)) ∧ w = w' := by
  obtain ⟨p1, p2, p3⟩ := Hps.pow_in hk
  have hp : (1 : Nat) ≤ 2 ^ k := Nat.one_le_two_pow
  have hc : ((2 ^ k - 1 : Nat) : Int) = 2 ^ k - 1 := by
    rw [Int.ofNat_sub hp]
    simp
  have hw : IntKind.u64.wrap ((2 : Int) ^ k - 1) = 2 ^ k - 1 := by
    rw [IntKind.wrap_u64]
    have e : ((2 ^ k : Nat) : Int) = (2 : Int) ^ k := by rw [Int.natCast_pow]; rfl
    omega
  rw [hc]
  go_enter Try.func54, Try.ntmps54
  go_wp2_with fail
  go_ret
  simp
/-- a heap of the call's own in the box b of a lazy sweeper, with its marked cells and its number -/
structure BoxW (w0 wr : World) (b : Nat) (vc vr : Value) (rvs : List Value) (h : Hp) (V : Nat) (i : Int) : Prop where
  own : OwnHx wr w0.heap.size vc vr rvs h
  apart : Apart (some b) (vc :: vr :: rvs)
  box : Rw wr b 69 #[vc, vr, .int .u64 V, .int .i64 i]
  low : Below w0.heap.size w0 wr
  lo : w0.heap.size ≤ b
section
variable {w0 wr w1 : World} {b g d c k x i V : Nat} {vc vr : Value} {rvs : List Value} {h : Hp} {cl old : Cl} {ai : Int}
theorem BoxW.boxNe (S : BoxW w0 wr b vc vr rvs h V ai) {v : Value} (hv : v ∈ vc :: vr :: rvs) (hg : v.ownBlock = some g) : b ≠ g := by
  rcases S.apart v hv with e | e
  · rw [hg] at e; cases e
  · intro e'; rw [hg] at e; exact e (by rw [e'])
theorem BoxW.up (S : BoxW w0 wr b vc vr rvs h V ai) (hw : Below wr.heap.size wr w1) : BoxW w0 w1 b vc vr rvs h V ai :=
  ⟨S.own.below hw (Nat.le_refl _), S.apart, S.box.keep hw S.box.lt, S.low.trans (hw.mono S.low.size), S.lo⟩
theorem BoxW.move (S : BoxW w0 wr b vc vr rvs h V ai) (j : Int) : BoxW w0 (wr.setCell ⟨b, 3, none⟩ (.int .i64 j)) b vc vr rvs h V j :=
  ⟨S.own.far (put_any wr b 3 _) S.apart, S.apart, by simpa using S.box.put 3 (.int .i64 j), S.low.setCell (p := ⟨b, 3, none⟩) S.lo _, S.lo⟩
theorem BoxW.mark (S : BoxW w0 wr b vc vr rvs h V ai) (U : Nat) : BoxW w0 (wr.setCell ⟨b, 2, none⟩ (.int .u64 U)) b vc vr rvs h U ai :=
  ⟨S.own.far (put_any wr b 2 _) S.apart, S.apart, by simpa using S.box.put 2 (.int .u64 U), S.low.setCell (p := ⟨b, 2, none⟩) S.lo _, S.lo⟩
theorem BoxW.ref1 {m : Nat} (S : BoxW w0 wr b vc vr rvs h V ai) (hc : h.cs[k]? = some cl) (hv : rvs[k]? = some (.slice (some ⟨g, 0, none⟩) m d)) (hm : cl.r.length = m) (y : Int) : BoxW w0 (wr.setCell ⟨g, i, none⟩ (.int .i64 y)) b vc vr rvs ⟨h.cs.set k ⟨cl.u, cl.d, cl.r.set i y⟩, h.rt⟩ V ai := by
  subst hm
  have hmem : (Value.slice (some ⟨g, 0, none⟩) cl.r.length d) ∈ vc :: vr :: rvs := by simp [List.mem_of_getElem? hv]
  have h1 : w0.heap.size ≤ g ∧ g < wr.heap.size := S.own.blocks hmem rfl
  exact ⟨S.own.ref1 hc hv y, S.apart, S.box.other (S.boxNe hmem rfl) _, S.low.setCell (p := ⟨g, i, none⟩) (by show w0.heap.size ≤ g; omega) _, S.lo⟩
theorem BoxW.took {n : Nat} (S : BoxW w0 wr b (.slice (some ⟨g, 0, none⟩) n c) vr rvs h V ai) (hn : h.cs.length = n) (hc : h.cs[k]? = some old) :
    BoxW w0 (((wr.setCell ⟨g, k * 3, none⟩ (.bool true)).setCell ⟨g, k * 3 + 1, none⟩ (.int .i64 0)).setCell ⟨g, k * 3 + 2, none⟩ (.slice none 0 0)) b (.slice (some ⟨g, 0, none⟩) n c) vr (rvs.set k (.slice none 0 0)) ⟨h.cs.set k Hps.tookCl, h.rt⟩ V ai := by
  subst hn
  have hm : (Value.slice (some ⟨g, 0, none⟩) h.cs.length c) ∈ (Value.slice (some ⟨g, 0, none⟩) h.cs.length c) :: vr :: rvs := by simp
  have h1 : w0.heap.size ≤ g ∧ g < wr.heap.size := S.own.blocks hm rfl
  have h2 : b ≠ g := S.boxNe hm rfl
  refine ⟨S.own.cell (cl := Hps.tookCl) hc (World.ownsRow_nil _ _ _ _) (fun _ _ => .inl rfl), fun u hu => ?_, ((S.box.other h2 _).other h2 _).other h2 _, ?_, S.lo⟩
  · simp only [List.mem_cons] at hu
    rcases hu with rfl | rfl | hu
    · exact S.apart _ (by simp)
    · exact S.apart u (by simp)
    · rcases List.mem_or_eq_of_mem_set hu with hu | rfl
      · exact S.apart u (by simp [hu])
      · exact .inl rfl
  · exact ((S.low.setCell (p := ⟨g, k * 3, none⟩) (by show w0.heap.size ≤ g; omega) _).setCell (p := ⟨g, k * 3 + 1, none⟩) (by show w0.heap.size ≤ g; omega) _).setCell (p := ⟨g, k * 3 + 2, none⟩) (by show w0.heap.size ≤ g; omega) _
/-- the number in the box -/
def atS (wr : World) (b : Nat) : Nat := match wr.cell? ⟨b, 3, none⟩ with
  | some (.int _ x) => x.toNat
  | _ => 0
theorem BoxW.at_ (S : BoxW w0 wr b vc vr rvs h V (k : Int)) : atS wr b = k := by
  have : wr.cell? ⟨b, 3, none⟩ = some (.int .i64 k) := S.box.cell 3
  rw [atS, this]
  rfl
end
theorem Hps.cut_cellP {ms : List Bool} {cs : List Cl} {a j : Nat} {c : Cl} (hc : cs[a]? = some c) : ∃ c', (Hps.cutIJ ms cs a j)[a]? = some c' ∧ c'.u = c.u ∧ c'.d = c.d ∧ c'.r.length = c.r.length ∧ ∀ x, c'.r[j]? = some x → c.r[j]? = some x := by
  rw [Hps.cut_at hc]
  split
  · rw [if_neg (Nat.lt_irrefl _), if_pos rfl]
    refine ⟨_, rfl, rfl, rfl, ?_, fun x hx => ?_⟩
    · show ((c.r.take j).map (Hps.cutR ms) ++ c.r.drop j).length = _
      rw [List.length_append, List.length_map, List.length_take, List.length_drop]
      omega
    · have hx' : ((c.r.take j).map (Hps.cutR ms) ++ c.r.drop j)[j]? = some x := hx
      rcases Nat.lt_or_ge j c.r.length with hj | hj
      · have hl : ((c.r.take j).map (Hps.cutR ms)).length = j := by rw [List.length_map, List.length_take]; omega
        rw [List.getElem?_append_right (by rw [hl]; exact Nat.le_refl _), hl, Nat.sub_self, List.getElem?_drop, Nat.add_zero] at hx'
        exact hx'
      · rw [List.getElem?_eq_none (by rw [List.length_append, List.length_map, List.length_take, List.length_drop]; omega)] at hx'
        cases hx'
  · exact ⟨c, rfl, rfl, rfl, rfl, fun x hx => hx⟩
/-- a reference of a cell that is not marked, to no marked cell: it is -1 then -/
theorem Hps.cut_putP {ms : List Bool} {cs : List Cl} {a j : Nat} {c c' : Cl} {x : Int} (hc : cs[a]? = some c) (hn : c.r[j]? = some x) (hm : ms[a]? = some false) (hx : x = -1 ∨ (0 ≤ x ∧ ms[x.toNat]? = some false)) (hc' : (Hps.cutIJ ms cs a j)[a]? = some c') : Hps.cutIJ ms cs a (j + 1) = (Hps.cutIJ ms cs a j).set a ⟨c'.u, c'.d, c'.r.set j (-1)⟩ := by
  obtain ⟨c2, h1, h2, h3, _, _, h6⟩ := Hps.cut_ref hc hn hm
  rw [hc'] at h1
  obtain rfl := Option.some.inj h1
  rw [h6]
  rcases hx with rfl | hx
  · rw [Hps.cutR, if_neg (fun e => by omega)]
  · rw [Hps.cutR, if_pos hx]
set_option maxHeartbeats 4000000 in
theorem next_any (w0 w : World) (b : Nat) (vc vr : Value) (rvs : List Value) (h : Hp) (ms : List Bool) (i : Nat) (S0 : BoxW w0 w b vc vr rvs h (Bm.wordN ms true) (i : Int)) (hl : ms.length = h.cs.length) (h40 : h.cs.length ≤ 40) (hi : i ≤ h.cs.length) :
    Calls Try.prog 90 #[.pointer (some ⟨b, 0, none⟩)] w fun e w' => (Hps.unAt ms i < ms.length ∧ e = .returned (.int .i64 (Hps.unAt ms i : Nat)) ∧ BoxW w0 w' b vc vr rvs h (Bm.wordN ms true) ((Hps.unAt ms i : Nat) + 1 : Int)) ∨ (¬ Hps.unAt ms i < ms.length ∧ e = .returned (.int .i64 (-1)) ∧ BoxW w0 w' b vc vr rvs h (Bm.wordN ms true) (ms.length : Nat)) := by
  obtain ⟨A, c, R, d, rfl, rfl, -⟩ := S0.own.form
  have hM := Bm.wordN_lt ms true (by omega)
  have HBIT := Lib.hid (Bm.wordN_bit ms true)
  obtain ⟨M, hMe⟩ : ∃ M, Bm.wordN ms true = M := ⟨_, rfl⟩
  rw [hMe] at S0 hM HBIT ⊢
  obtain ⟨n, hn⟩ : ∃ n, h.cs.length = n := ⟨_, rfl⟩
  obtain ⟨m, hm⟩ : ∃ m, h.rt.length = m := ⟨_, rfl⟩
  rw [hn] at S0 hl h40 hi ⊢
  rw [hm] at S0 ⊢
  have HLM := Lib.hid hl
  rw [hl]
  clear hMe hn hm hl
  go_enter Try.func90, Try.ntmps90
  go_wp2_with fail
  go_loopw [3] (fun _ wr => ∃ k : Nat, i ≤ k ∧ k ≤ n ∧ Hid (Hps.unAt ms i = Hps.unAt ms k) ∧ BoxW w0 wr b (.slice A n c) (.slice R m d) rvs h M (k : Int)) (fun _ wr => n - atS wr b)
  case atStart => exact ⟨i, Nat.le_refl _, hi, Lib.hid rfl, S0⟩
  case round =>
    clear S0
    obtain ⟨k, hik, hkn, HU, S⟩ := hrel
    have x0 : wr.cell? ⟨b, 0, none⟩ = some (.slice A n c) := S.box.cell 0
    have x3 : wr.cell? ⟨b, 3, none⟩ = some (.int .i64 k) := S.box.cell 3
    have HAT := Lib.hid S.at_
    by_cases hlt : k < n
    · have hlt' : (k : Int) < n := by omega
      have hB : Hps.hasB M (k : Int) = M.testBit k := by simp [Hps.hasB]
      have HB := Lib.hid hB
      clear hB
      go_wp2_with fail
      go_big_quiet (fail)
      have S' := S.up (below_drewN (Below.refl wr.heap.size wr) nq)
      clear S x0 x3
      generalize wr.drewN nq = w4 at S' ⊢
      have x0 : w4.cell? ⟨b, 0, none⟩ = some (.slice A n c) := S'.box.cell 0
      have x2 : w4.cell? ⟨b, 2, none⟩ = some (.int .u64 M) := S'.box.cell 2
      have x3 : w4.cell? ⟨b, 3, none⟩ = some (.int .i64 k) := S'.box.cell 3
      have fz : w4.frozen? ⟨b, 3, none⟩ = false := S'.box.frozen 3
      have S1 := S'.move ((k : Int) + 1)
      have y2 : (w4.setCell ⟨b, 3, none⟩ (.int .i64 ((k : Int) + 1))).cell? ⟨b, 2, none⟩ = some (.int .u64 M) := S1.box.cell 2
      clear S'
      go_upto_region 4 with fail
      generalize w4.setCell ⟨b, 3, none⟩ (.int .i64 ((k : Int) + 1)) = w5 at S1 y2 ⊢
      clear x0 x2 x3 fz
      go_wp2_with fail
      refine (has_any M (k : Int) w5 hM).mono ?_
      rw [HB.out, HBIT.out]
      obtain ⟨mb, hmb⟩ : ∃ mb, ms[k]? = some mb := ⟨_, List.getElem?_eq_getElem (by rw [HLM.out]; exact hlt)⟩
      cases mb
      · rw [hmb]
        have HE := Lib.hid (show Hps.unAt ms i = k by rw [HU.out, Hps.unAt_un hmb])
        clear hmb
        rintro e w6 ⟨rfl, rfl⟩
        go_wp2_with fail
        go_ret
        left
        rw [HE.out]
        exact ⟨hlt, rfl, S1⟩
      · rw [hmb]
        have HU2 := Lib.hid (HU.out.trans (Hps.unAt_set hmb))
        clear hmb
        rintro e w6 ⟨rfl, rfl⟩
        have HAT1 := Lib.hid (BoxW.at_ (k := k + 1) (by simpa using S1))
        go_wp2_with fail
        go_roundw
        case rel => exact ⟨k + 1, by omega, by omega, HU2, by simpa using S1⟩
        case measure =>
          rw [HAT.out, HAT1.out]
          omega
    · obtain rfl : n = k := by omega
      have HE := Lib.hid (show Hps.unAt ms i = n by rw [HU.out, Hps.unAt_end (by rw [HLM.out]; exact Nat.le_refl _)])
      go_wp2_with fail
      go_big_quiet (fail)
      have S' := S.up (below_drewN (Below.refl wr.heap.size wr) nq)
      go_wp2_with fail
      go_ret
      right
      rw [HE.out]
      exact ⟨Nat.lt_irrefl _, rfl, S'⟩
set_option maxHeartbeats 8000000 in
theorem cutLost_any (w0 w : World) (b : Nat) (vc vr : Value) (rvs : List Value) (h : Hp) (ms : List Bool) (i : Int) (S0 : BoxW w0 w b vc vr rvs h (Bm.wordN ms true) i) (hl : ms.length = h.cs.length) (h40 : h.cs.length ≤ 40) (h3 : ∀ cl ∈ h.cs, cl.r.length ≤ 3) (hrf : ∀ cl ∈ h.cs, Hps.okRefs h.cs cl.r = true) :
    Calls Try.prog 91 #[.pointer (some ⟨b, 0, none⟩)] w fun e w' => (∃ v, e = .returned v) ∧ BoxW w0 w' b vc vr rvs ⟨Hps.cutL ms h.cs, h.rt⟩ (Bm.wordN ms true) i := by
  obtain ⟨A, c, R, d, rfl, rfl, -⟩ := S0.own.form
  have hM := Bm.wordN_lt ms true (by omega)
  have HBIT := Lib.hid (Bm.wordN_bit ms true)
  obtain ⟨M, hMe⟩ : ∃ M, Bm.wordN ms true = M := ⟨_, rfl⟩
  rw [hMe] at S0 hM HBIT ⊢
  obtain ⟨n, hn⟩ : ∃ n, h.cs.length = n := ⟨_, rfl⟩
  obtain ⟨m, hm⟩ : ∃ m, h.rt.length = m := ⟨_, rfl⟩
  have HLC := Lib.hid hn
  rw [hn] at S0 hl h40 ⊢
  rw [hm] at S0 ⊢
  have HLM := Lib.hid hl
  have H3 := Lib.hid h3
  have HRF := Lib.hid hrf
  clear hMe hn hm hl h3 hrf
  have x0 : w.cell? ⟨b, 0, none⟩ = some (.slice A n c) := S0.box.cell 0
  go_enter Try.func91, Try.ntmps91
  go_wp2_with fail
  clear x0
  go_loopw [12] (fun iv wr => ∃ a : Nat, a ≤ n ∧ iv = .int .i64 a ∧ BoxW w0 wr b (.slice A n c) (.slice R m d) rvs ⟨Hps.cutIJ ms h.cs a 0, h.rt⟩ M i) (fun iv _ => n - (intOf iv).toNat)
  case atStart => exact ⟨0, by omega, rfl, by rw [Hps.cut_start]; exact S0⟩
  case round =>
    clear S0
    obtain ⟨a, ha, rfl, S⟩ := hrel
    by_cases hlt : a < n
    · have hlt' : (a : Int) < n := by omega
      obtain ⟨cl, hcl⟩ : ∃ cl, h.cs[a]? = some cl := ⟨_, List.getElem?_eq_getElem (by rw [HLC.out]; exact hlt)⟩
      have HCL := Lib.hid hcl
      obtain ⟨len, hlen⟩ : ∃ len, cl.r.length = len := ⟨_, rfl⟩
      have HLEN := Lib.hid hlen
      have hl3 : len ≤ 3 := by
        rw [← hlen]
        exact H3.out cl (List.mem_of_getElem? hcl)
      clear hcl hlen
      obtain ⟨c', hc', hu', hd', hl', hr'⟩ := Hps.cut_cellP (ms := ms) (j := 0) HCL.out
      obtain ⟨gc, v, e4, -, hgc, hv, oi, y0, y1, y2, fz⟩ := S.own.cell_at hc'
      subst e4
      obtain ⟨A2, c2, e5, f5⟩ := oi.form
      rw [hl', HLEN.out] at e5 f5
      subst e5
      have HV := Lib.hid hv
      have S1 := S.up (w1 := wr.alloc (.cells #[.bool c'.u, .int .i64 c'.d, .slice A2 len c2] 45)) ((Below.refl _ _).alloc (Nat.le_refl _) _)
      have QC := Rw.new wr 45 #[.bool c'.u, .int .i64 c'.d, .slice A2 len c2]
      have hlow := S.low.size
      clear hc' hu' hd' hl' hr' hv oi fz S
      go_upto_region 3 with fail
      generalize wr.alloc (.cells #[.bool c'.u, .int .i64 c'.d, .slice A2 len c2] 45) = w4 at S1 QC ⊢
      obtain ⟨gq, hgq⟩ : ∃ gq, wr.heap.size = gq := ⟨_, rfl⟩
      rw [hgq] at QC hlow hgc f5 ⊢
      have HF5 := Lib.hid f5
      clear hgq y0 y1 y2 f5
      have z2 : w4.cell? ⟨gq, 2, none⟩ = some (.slice A2 len c2) := QC.cell 2
      have x2 : w4.cell? ⟨b, 2, none⟩ = some (.int .u64 M) := S1.box.cell 2
      have HB := Lib.hid (show Hps.hasB M (a : Int) = decide (ms[a]? = some true) by rw [← HBIT.out]; simp [Hps.hasB])
      go_wp2_with fail
      refine (has_any M (a : Int) w4 hM).mono ?_
      rw [HB.out]
      obtain ⟨mb, hmb⟩ : ∃ mb, ms[a]? = some mb := ⟨_, List.getElem?_eq_getElem (by rw [HLM.out]; exact hlt)⟩
      cases mb
      case true =>
        rw [hmb]
        have HN := Lib.hid (show Hps.cutIJ ms h.cs a 0 = Hps.cutIJ ms h.cs (a + 1) 0 by
          rw [Hps.cut_marked (j' := cl.r.length) (by rw [hmb]; simp)]
          exact Hps.cut_next HCL.out)
        rw [HN.out] at S1
        clear hmb HN
        rintro e w6 ⟨rfl, rfl⟩
        go_wp2_with fail
        go_roundw
        case rel => exact ⟨a + 1, by omega, by go_num, S1⟩
        case measure => simp [intOf]; omega
      rw [hmb]
      have HMB := Lib.hid hmb
      clear hmb
      rintro e w6 ⟨rfl, rfl⟩
      go_wp2_with fail
      clear x2 z2
      go_loopw [26] (fun jv wr => ∃ j : Nat, j ≤ len ∧ jv = .int .i64 j ∧ BoxW w0 wr b (.slice (some ⟨gc, 0, none⟩) n c) (.slice R m d) rvs ⟨Hps.cutIJ ms h.cs a j, h.rt⟩ M i ∧ Rw wr gq 45 #[.bool c'.u, .int .i64 c'.d, .slice A2 len c2]) (fun jv _ => len - (intOf jv).toNat)
      case atStart => exact ⟨0, by omega, rfl, S1, QC⟩
      case round =>
        clear S1 QC
        obtain ⟨j, hj, rfl, S, QC⟩ := hrel
        by_cases hjl : j < len
        · have hjl' : (j : Int) < len := by omega
          obtain ⟨c3, hc3, -, -, hl3', hr3⟩ := Hps.cut_cellP (ms := ms) (j := j) HCL.out
          obtain ⟨_, v, -, -, -, hv, oi, -, -, -, -⟩ := S.own.cell_at hc3
          rw [HV.out] at hv
          obtain rfl := Option.some.inj hv
          obtain ⟨gr, hA2, hgr1, hgr⟩ := HF5.out (by omega)
          subst hA2
          obtain ⟨_, _, x, e7, -, hx, d7⟩ := oi.reads.at_ (k := j) hjl
          injection e7 with e7
          injection e7 with e7 e8
          subst e7 e8
          rw [Nat.zero_add] at d7
          have hcx := hr3 x hx
          have z2 : wr.cell? ⟨gq, 2, none⟩ = some (.slice (some ⟨gr, 0, none⟩) len c2) := QC.cell 2
          have x2 : wr.cell? ⟨b, 2, none⟩ = some (.int .u64 M) := S.box.cell 2
          have HB2 := Lib.hid (show Hps.hasB M x = true ↔ 0 ≤ x ∧ ms[x.toNat]? = some true by
            rw [Hps.hasB, HBIT.out]
            simp)
          have hok := Hps.okRefs_at (HRF.out cl (List.mem_of_getElem? HCL.out)) hcx
          go_wp2_with fail
          refine (has_any M x wr hM).mono ?_
          cases hb : Hps.hasB M x
          case true =>
            have hb2 := HB2.out.1 hb
            have HN := Lib.hid (Hps.cut_same (ms := ms) (i := a) (j := j) HCL.out hcx (.inr (by rw [Hps.cutR, if_neg (fun e => by rw [hb2.2] at e; cases e.2)])))
            clear hb hb2 hok HB2 hcx hx hc3 hr3 oi hv d7
            rintro e w6 ⟨rfl, rfl⟩
            go_wp2_with fail
            go_roundw
            case rel => exact ⟨j + 1, by omega, by go_num, by rw [HN.out]; exact S, QC⟩
            case measure => simp [intOf]; omega
          have hxx : x = -1 ∨ (0 ≤ x ∧ ms[x.toNat]? = some false) := by
            by_cases hx0 : 0 ≤ x
            · right
              refine ⟨hx0, ?_⟩
              obtain ⟨y, rfl, hy, _⟩ := Hps.okRef_nat hok hx0
              rw [HLC.out] at hy
              obtain ⟨mb, hmb⟩ : ∃ mb, ms[y]? = some mb := ⟨_, List.getElem?_eq_getElem (by rw [HLM.out]; exact hy)⟩
              cases mb
              · simpa using hmb
              · have := HB2.out.2 ⟨hx0, by simpa using hmb⟩
                rw [hb] at this
                cases this
            · left
              have := (Hps.okRef_lo hok).1
              omega
          have HN := Lib.hid (Hps.cut_putP HCL.out hcx HMB.out hxx hc3)
          have fzr : wr.frozen? ⟨gr, j, none⟩ = false := by
            have oi2 := oi
            rw [← HLEN.out, ← hl3'] at oi2
            exact World.ownsRow.frozenAt oi2 j
          have SN := S.ref1 (i := j) hc3 HV.out (by rw [hl3', HLEN.out]) (-1)
          have SN2 := Lib.hid (show BoxW w0 (wr.setCell ⟨gr, j, none⟩ (.int .i64 (-1))) b (.slice (some ⟨gc, 0, none⟩) n c) (.slice R m d) rvs ⟨Hps.cutIJ ms h.cs a (j + 1), h.rt⟩ M i by rw [HN.out]; exact SN)
          have QC2 := Lib.hid (QC.other (show gq ≠ gr by omega) (i := j) (.int .i64 (-1)))
          clear hb hok HB2 hxx hcx hx hc3 hr3 oi hv HN SN S QC
          rintro e w6 ⟨rfl, rfl⟩
          go_wp2_with fail
          go_roundw
          case rel => exact ⟨j + 1, by omega, by go_num, SN2.out, QC2.out⟩
          case measure => simp [intOf]; omega
        · obtain rfl : len = j := by omega
          have HN := Lib.hid (show Hps.cutIJ ms h.cs a len = Hps.cutIJ ms h.cs (a + 1) 0 by rw [← HLEN.out]; exact Hps.cut_next HCL.out)
          go_wp2_with fail
          go_roundw
          case rel => exact ⟨a + 1, by omega, by go_num, by rw [← HN.out]; exact S⟩
          case measure => simp [intOf]; omega
    · obtain rfl : n = a := by omega
      have HCT := Lib.hid (show Hps.cutIJ ms h.cs n 0 = Hps.cutL ms h.cs by rw [Hps.cutL, HLC.out])
      rw [HCT.out] at S
      go_wp2_with fail
      go_end0
      exact ⟨⟨_, rfl⟩, S⟩
end Go.Proofs.Ytakdjiojahlnmaa

