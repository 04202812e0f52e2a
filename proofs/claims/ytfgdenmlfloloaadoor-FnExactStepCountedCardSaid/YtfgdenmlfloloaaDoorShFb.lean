/- What the claim DEStepCounted stands on, part 2 of 4: texts of one seat put together, with what the claim needs of them. No conditions. -/
import Derived.Test.YtfgdenmlfloloaaDoorShFa
namespace Go.Proofs.YtfgdenmlfloloaaDoor
open Go.RowKit
theorem wpList_appendC {w : World} {ops : Array Oper} {rest : List Oper} {o : Oper} {a : Act} {Q : Exit → Act → World → Prop} (hgd : o.guard = none) (s x : Operand)
    (ho : o.op = .call { callee := .builtin .append, args := #[s, x], argTypes := #[23, 23] })
    (base : Nat) (v : Value) (n : Nat) (vs : List Value) (hs : a.eval s = v) (hown : w.ownsRow base 43 3 v n vs) (gs : Nat) (u : Bool) (d : Int) (A8 : Option Addr) (m8 c8 : Nat) (hx : a.eval x = .slice (some ⟨gs, 0, none⟩) 1 1)
    (hr : Rw w gs 43 #[.bool u, .int .i64 d, .slice A8 m8 c8]) (hn : n + 1 ≤ 1099511627776) (hbase : base ≤ w.heap.size)
    (h : ∀ v' w' A9 c9, v' = .slice A9 (n + 1) c9 → w'.ownsRow base 43 3 v' (n + 1) (vs ++ [.bool u, .int .i64 d, .slice A8 m8 c8]) → w.grownBy w' v.ownBlock → (v'.ownBlock = v.ownBlock ∨ v'.ownBlock = some w.heap.size) → wpList Tryd.prog ops Q rest (a.put o.dst v') w') : wpList Tryd.prog ops Q (o :: rest) a w :=
  wpList_plain hgd fun _ hK => app_stepC hgd s x ho base v n vs hs hown gs u d A8 m8 c8 hx hr hn hbase fun v' w' A9 c9 e1 e2 e3 e4 => hK _ _ (h v' w' A9 c9 e1 e2 e3 e4)
theorem OwnI.cell_at {w : World} {base g c n j : Nat} {xs : List Int} (h : OwnI w base (.slice (some ⟨g, 0, none⟩) n c) xs) (hj : j < n) : ∃ x : Int, xs[j]? = some x ∧ w.cell? ⟨g, j, none⟩ = some (.int .i64 x) := by
  obtain ⟨g', o', x, e, _, hx, hc⟩ := h.reads.at_ hj
  injection e with e
  injection e with e1 e2
  subst e1 e2
  rw [Nat.zero_add] at hc
  exact ⟨x, hx, hc⟩
/-- a cell of a heap of the call's own, in memory -/
theorem OwnHx.cell_at {w : World} {base n c k : Nat} {A : Option Addr} {vr : Value} {rvs : List Value} {h : Hp} {cl : Cl} (S : OwnHx w base (.slice A n c) vr rvs h) (hc : h.cs[k]? = some cl) :
    ∃ (g : Nat) (v : Value), A = some ⟨g, 0, none⟩ ∧ base ≤ g ∧ g < w.heap.size ∧ rvs[k]? = some v ∧ OwnI w base v cl.r ∧ w.cell? ⟨g, k * 3, none⟩ = some (.bool cl.u) ∧ w.cell? ⟨g, k * 3 + 1, none⟩ = some (.int .i64 cl.d) ∧ w.cell? ⟨g, k * 3 + 2, none⟩ = some v ∧ ∀ i, w.frozen? ⟨g, i, none⟩ = false := by
  have hk : k < h.cs.length := (List.getElem?_eq_some_iff.1 hc).1
  obtain ⟨v, hv, hi⟩ := S.ref hc
  obtain ⟨f1, f2, f3⟩ := flatC_at _ _ _ _ _ hc hv
  obtain ⟨A', c', R', d', e1, _, _, _, fA, _⟩ := S.form
  injection e1 with e1 e2 e3
  subst e1 e2 e3
  obtain ⟨g, rfl, h1, h2⟩ := fA (by omega)
  exact ⟨g, v, rfl, h1, h2, hv, hi, (World.ownsRow.cellAt S.row _ (by omega)).trans f1, (World.ownsRow.cellAt S.row _ (by omega)).trans f2, (World.ownsRow.cellAt S.row _ (by omega)).trans f3, fun i => World.ownsRow.frozenAt S.row i⟩
/-- a cell is put behind the last one -/
theorem OwnHx.snoc {w w1 : World} {base : Nat} {vc vr v9 v8 : Value} {rvs : List Value} {h : Hp} {cl : Cl} (S : OwnHx w base vc vr rvs h) (hG : w.grownBy w1 vc.ownBlock)
    (o9 : w1.ownsRow base 43 3 v9 (h.cs.length + 1) (flatC h.cs rvs ++ [.bool cl.u, .int .i64 cl.d, v8])) (q : v9.ownBlock = vc.ownBlock ∨ v9.ownBlock = some w.heap.size)
    (o8 : OwnI w base v8 cl.r) (hap : ∀ v ∈ vc :: vr :: rvs, v8.ownBlock = none ∨ v8.ownBlock ≠ v.ownBlock) : OwnHx w1 base v9 vr (rvs ++ [v8]) ⟨h.cs ++ [cl], h.rt⟩ := by
  have hsp := S.sep
  unfold Sep at hsp
  simp only [List.pairwise_cons, List.mem_cons] at hsp
  obtain ⟨sp1, sp2, sp3⟩ := hsp
  have h8lt : ∀ kk, v8.ownBlock = some kk → kk < w.heap.size := fun kk hk => (World.ownsRow.lt o8 kk hk).2
  have hvr : ∀ kk, vr.ownBlock = some kk → kk < w.heap.size := fun kk hk => (S.blocks (by simp) hk).2
  have hrv : ∀ v ∈ rvs, ∀ kk, v.ownBlock = some kk → kk < w.heap.size := fun v hv kk hk => (S.blocks (by simp [hv]) hk).2
  have h9old : ∀ v : Value, (vc.ownBlock = none ∨ vc.ownBlock ≠ v.ownBlock) → (∀ kk, v.ownBlock = some kk → kk < w.heap.size) → v9.ownBlock = none ∨ v9.ownBlock ≠ v.ownBlock := fun v hv hlt' => by
    rcases q with e | e
    · rw [e]; exact hv
    · right
      rw [e]
      intro e'
      have := hlt' _ e'.symm
      omega
  refine ⟨by simp [S.len], ?_, ?_, S.roots.far hG (sep_back (sp1 vr (.inl rfl))), ?_⟩
  · have e : flatC (h.cs ++ [cl]) (rvs ++ [v8]) = flatC h.cs rvs ++ [.bool cl.u, .int .i64 cl.d, v8] := by
      rw [flatC_append _ _ _ _ S.len]
      simp [flatC]
    rw [e, List.length_append, List.length_singleton]
    exact o9
  · intro j c' v hc' hv
    simp only at hc'
    rcases Nat.lt_or_ge j h.cs.length with hj | hj
    · rw [List.getElem?_append_left hj] at hc'
      rw [List.getElem?_append_left (by rw [S.len]; exact hj)] at hv
      exact (S.refs j c' v hc' hv).far hG (sep_back (sp1 v (.inr (List.mem_of_getElem? hv))))
    · rw [List.getElem?_append_right hj] at hc'
      rw [List.getElem?_append_right (by rw [S.len]; exact hj), S.len] at hv
      have hjk : j - h.cs.length = 0 := by
        rcases Nat.eq_zero_or_pos (j - h.cs.length) with e | e
        · exact e
        · rw [List.getElem?_eq_none (by simp; omega)] at hv; cases hv
      rw [hjk] at hc' hv
      simp at hc' hv
      subst hc' hv
      exact o8.far hG (hap vc (by simp))
  · unfold Sep
    simp only [List.pairwise_cons, List.mem_cons, List.mem_append, List.pairwise_append, List.not_mem_nil, or_false]
    refine ⟨fun v hv => ?_, fun v hv => ?_, sp3, ⟨by simp, List.Pairwise.nil⟩, fun a ha v hv => ?_⟩
    · rcases hv with rfl | hv | rfl
      · exact h9old v (sp1 v (.inl rfl)) hvr
      · exact h9old v (sp1 v (.inr hv)) (hrv v hv)
      · exact h9old v (sep_back (hap vc (by simp))) h8lt
    · rcases hv with hv | rfl
      · exact sp2 v hv
      · exact sep_back (hap vr (by simp))
    · subst hv
      exact sep_back (hap a (by simp [ha]))
/-- the copy in the box b, and the boxes of the arguments and of the result -/
structure DoSt (w wr : World) (b : Nat) (hb cb rb : Array Value) (vc vr : Value) (rvs : List Value) (h : Hp) : Prop where
  own : OwnHx wr (w.heap.size + 3) vc vr rvs h
  apart : Apart (some b) (vc :: vr :: rvs)
  box : Rw wr b 26 #[vc, vr]
  arg : Rw wr w.heap.size 26 hb
  cmd : Rw wr (w.heap.size + 1) 36 cb
  res : Rw wr (w.heap.size + 2) 26 rb
  bel : Below w.heap.size w wr
  lo : w.heap.size + 3 ≤ b
section
variable {w wr w1 : World} {b g c d i k : Nat} {hb cb rb : Array Value} {vc vr : Value} {rvs : List Value} {h : Hp} {cl : Cl}
theorem DoSt.drew (S : DoSt w wr b hb cb rb vc vr rvs h) : DoSt w wr.drew b hb cb rb vc vr rvs h := by
  have hw : Below wr.heap.size wr wr.drew := (Below.refl _ _).drew
  exact ⟨S.own.below hw (Nat.le_refl _), S.apart, S.box.keep hw S.box.lt, S.arg.keep hw S.arg.lt, S.cmd.keep hw S.cmd.lt, S.res.keep hw S.res.lt, S.bel.drew, S.lo⟩
theorem DoSt.up (S : DoSt w wr b hb cb rb vc vr rvs h) (hw : Below wr.heap.size wr w1) : DoSt w w1 b hb cb rb vc vr rvs h :=
  ⟨S.own.below hw (Nat.le_refl _), S.apart, S.box.keep hw S.box.lt, S.arg.keep hw S.arg.lt, S.cmd.keep hw S.cmd.lt, S.res.keep hw S.res.lt, S.bel.trans (hw.mono S.bel.size), S.lo⟩
/-- into a block of the copy's own something is written -/
theorem DoSt.into (S : DoSt w wr b hb cb rb vc vr rvs h) {v : Value} (hv : v ∈ vc :: vr :: rvs) (hg : v.ownBlock = some g) {rvs' : List Value} {h' : Hp} (u : Value)
    (ho : OwnHx (wr.setCell ⟨g, i, none⟩ u) (w.heap.size + 3) vc vr rvs' h') (ha : ∀ v ∈ rvs', v.ownBlock = none ∨ v.ownBlock ≠ some b) : DoSt w (wr.setCell ⟨g, i, none⟩ u) b hb cb rb vc vr rvs' h' := by
  have h1 := S.own.blocks hv hg
  have h2 : b ≠ g := by
    rcases S.apart v hv with e | e
    · rw [hg] at e; cases e
    · intro e'; rw [hg] at e; exact e (by rw [e'])
  refine ⟨ho, ?_, S.box.other h2 u, S.arg.other (by omega) u, S.cmd.other (by omega) u, S.res.other (by omega) u, S.bel.setCell (p := ⟨g, i, none⟩) (by show w.heap.size ≤ g; omega) u, S.lo⟩
  intro x hx
  simp only [List.mem_cons] at hx
  rcases hx with rfl | rfl | hx
  · exact S.apart x (by simp)
  · exact S.apart x (by simp)
  · exact ha x hx
theorem DoSt.root {m : Nat} (S : DoSt w wr b hb cb rb vc (.slice (some ⟨g, 0, none⟩) m d) rvs h) (hm : h.rt.length = m) (x : Int) : DoSt w (wr.setCell ⟨g, i, none⟩ (.int .i64 x)) b hb cb rb vc (.slice (some ⟨g, 0, none⟩) m d) rvs ⟨h.cs, h.rt.set i x⟩ := by
  subst hm
  exact S.into (v := .slice (some ⟨g, 0, none⟩) h.rt.length d) (by simp) rfl _ (S.own.root x) fun v hv => S.apart v (by simp [hv])
theorem DoSt.data {n : Nat} (S : DoSt w wr b hb cb rb (.slice (some ⟨g, 0, none⟩) n d) vr rvs h) (hn : h.cs.length = n) (hc : h.cs[k]? = some cl) (x : Int) : DoSt w (wr.setCell ⟨g, k * 3 + 1, none⟩ (.int .i64 x)) b hb cb rb (.slice (some ⟨g, 0, none⟩) n d) vr rvs ⟨h.cs.set k ⟨cl.u, x, cl.r⟩, h.rt⟩ := by
  subst hn
  exact S.into (v := .slice (some ⟨g, 0, none⟩) h.cs.length d) (by simp) rfl _ (S.own.data hc x) fun v hv => S.apart v (by simp [hv])
theorem DoSt.ref1 {m : Nat} (S : DoSt w wr b hb cb rb vc vr rvs h) (hc : h.cs[k]? = some cl) (hv : rvs[k]? = some (.slice (some ⟨g, 0, none⟩) m d)) (hm : cl.r.length = m) (x : Int) : DoSt w (wr.setCell ⟨g, i, none⟩ (.int .i64 x)) b hb cb rb vc vr rvs ⟨h.cs.set k ⟨cl.u, cl.d, cl.r.set i x⟩, h.rt⟩ := by
  subst hm
  exact S.into (v := .slice (some ⟨g, 0, none⟩) cl.r.length d) (by simp [List.mem_of_getElem? hv]) rfl _ (S.own.ref1 hc hv x) fun v hv => S.apart v (by simp [hv])
/-- a cell is put behind the last one, and the box holds the new slice -/
theorem DoSt.snoc {v9 v8 : Value} (S : DoSt w wr b hb cb rb vc vr rvs h) (hG : wr.grownBy w1 vc.ownBlock)
    (o9 : w1.ownsRow (w.heap.size + 3) 43 3 v9 (h.cs.length + 1) (flatC h.cs rvs ++ [.bool cl.u, .int .i64 cl.d, v8])) (q : v9.ownBlock = vc.ownBlock ∨ v9.ownBlock = some wr.heap.size)
    (o8 : OwnI wr (w.heap.size + 3) v8 cl.r) (hap : ∀ v ∈ vc :: vr :: rvs, v8.ownBlock = none ∨ v8.ownBlock ≠ v.ownBlock) (h8b : v8.ownBlock ≠ some b) :
    DoSt w (w1.setCell ⟨b, 0, none⟩ v9) b hb cb rb v9 vr (rvs ++ [v8]) ⟨h.cs ++ [cl], h.rt⟩ := by
  have hn := S.own.snoc hG o9 q o8 hap
  have hlo := S.lo
  have hbl := S.box.lt
  have hvcb : some b ≠ vc.ownBlock := by
    rcases S.apart vc (by simp) with e | e
    · rw [e]; simp
    · exact fun h => e h.symm
  have ap : Apart (some b) (v9 :: vr :: (rvs ++ [v8])) := by
    intro v hv
    simp only [List.mem_cons, List.mem_append, List.not_mem_nil, or_false] at hv
    rcases hv with rfl | rfl | hv | rfl
    · right
      rcases q with e | e
      · rw [e]; exact fun h => hvcb h.symm
      · rw [e]; intro e'; injection e' with e'; omega
    · exact S.apart v (by simp)
    · exact S.apart v (by simp [hv])
    · exact .inr h8b
  have far : ∀ {g' : Nat} {t : TypeId} {cs : Array Value}, Rw wr g' t cs → g' < w.heap.size + 3 → Rw (w1.setCell ⟨b, 0, none⟩ v9) g' t cs := fun hr hl =>
    Rw.other (Rw.far hr hG (fun e => by have := (S.own.blocks (v := vc) (by simp) e.symm).1; omega)) (by omega) _
  refine ⟨hn.far (put_any w1 b 0 v9) ap, ap, (Rw.far S.box hG hvcb).put 0 v9, far S.arg (by omega), far S.cmd (by omega), far S.res (by omega), ?_, hlo⟩
  exact (S.bel.grown hG S.bel.size (fun kk hk => by have := (S.own.blocks (v := vc) (by simp) hk).1; omega)).setCell (p := ⟨b, 0, none⟩) (by show w.heap.size ≤ b; omega) _
/-- a whole cell is written -/
theorem DoSt.cell {rv : Value} {old : Cl} (S : DoSt w wr b hb cb rb (.slice (some ⟨g, 0, none⟩) h.cs.length c) vr rvs h) (hc : h.cs[k]? = some old) (o : OwnI wr (w.heap.size + 3) rv cl.r) (hap : ∀ v ∈ (Value.slice (some ⟨g, 0, none⟩) h.cs.length c) :: vr :: rvs, rv.ownBlock = none ∨ rv.ownBlock ≠ v.ownBlock) (h8b : rv.ownBlock = none ∨ rv.ownBlock ≠ some b) :
    DoSt w (((wr.setCell ⟨g, k * 3, none⟩ (.bool cl.u)).setCell ⟨g, k * 3 + 1, none⟩ (.int .i64 cl.d)).setCell ⟨g, k * 3 + 2, none⟩ rv) b hb cb rb (.slice (some ⟨g, 0, none⟩) h.cs.length c) vr (rvs.set k rv) ⟨h.cs.set k cl, h.rt⟩ := by
  have hm : (Value.slice (some ⟨g, 0, none⟩) h.cs.length c) ∈ (Value.slice (some ⟨g, 0, none⟩) h.cs.length c) :: vr :: rvs := by simp
  have h1 : w.heap.size + 3 ≤ g ∧ g < wr.heap.size := S.own.blocks hm rfl
  have h2 : b ≠ g := by
    rcases S.apart _ hm with e | e
    · cases e
    · intro e'; exact e (by rw [e']; rfl)
  have oth : ∀ {g' : Nat} {t : TypeId} {cs : Array Value}, Rw wr g' t cs → g' ≠ g → Rw (((wr.setCell ⟨g, k * 3, none⟩ (.bool cl.u)).setCell ⟨g, k * 3 + 1, none⟩ (.int .i64 cl.d)).setCell ⟨g, k * 3 + 2, none⟩ rv) g' t cs := fun hr hne => ((hr.other hne _).other hne _).other hne _
  refine ⟨S.own.cell hc o hap, ?_, oth S.box h2, oth S.arg (by omega), oth S.cmd (by omega), oth S.res (by omega), ?_, S.lo⟩
  · intro x hx
    simp only [List.mem_cons] at hx
    rcases hx with rfl | rfl | hx
    · exact S.apart _ (by simp)
    · exact S.apart x (by simp)
    · rcases List.mem_or_eq_of_mem_set hx with hx | rfl
      · exact S.apart x (by simp [hx])
      · exact h8b
  · exact ((S.bel.setCell (p := ⟨g, k * 3, none⟩) (by show w.heap.size ≤ g; omega) _).setCell (p := ⟨g, k * 3 + 1, none⟩) (by show w.heap.size ≤ g; omega) _).setCell (p := ⟨g, k * 3 + 2, none⟩) (by show w.heap.size ≤ g; omega) _
theorem DoSt.cellN {n : Nat} {rv : Value} {old : Cl} (S : DoSt w wr b hb cb rb (.slice (some ⟨g, 0, none⟩) n c) vr rvs h) (hn : h.cs.length = n) (hc : h.cs[k]? = some old) (o : OwnI wr (w.heap.size + 3) rv cl.r) (hap : ∀ v ∈ (Value.slice (some ⟨g, 0, none⟩) n c) :: vr :: rvs, rv.ownBlock = none ∨ rv.ownBlock ≠ v.ownBlock) (h8b : rv.ownBlock = none ∨ rv.ownBlock ≠ some b) :
    DoSt w (((wr.setCell ⟨g, k * 3, none⟩ (.bool cl.u)).setCell ⟨g, k * 3 + 1, none⟩ (.int .i64 cl.d)).setCell ⟨g, k * 3 + 2, none⟩ rv) b hb cb rb (.slice (some ⟨g, 0, none⟩) n c) vr (rvs.set k rv) ⟨h.cs.set k cl, h.rt⟩ := by
  subst hn
  exact S.cell hc o hap h8b
/-- the copy goes into the result's box -/
theorem DoSt.done (S : DoSt w wr b hb cb rb vc vr rvs h) : OwnH ((wr.setCell ⟨w.heap.size + 2, 0, none⟩ vc).setCell ⟨w.heap.size + 2, 1, none⟩ vr) w.heap.size vc vr h ∧ Below w.heap.size w ((wr.setCell ⟨w.heap.size + 2, 0, none⟩ vc).setCell ⟨w.heap.size + 2, 1, none⟩ vr) := by
  have ap : Apart (some (w.heap.size + 2)) (vc :: vr :: rvs) := S.own.apart_below (by omega)
  exact ⟨⟨rvs, ((S.own.far (put_any wr _ 0 vc) ap).far (put_any _ _ 1 vr) ap).base (by omega)⟩, (S.bel.setCell (p := ⟨w.heap.size + 2, 0, none⟩) (by simp) vc).setCell (p := ⟨w.heap.size + 2, 1, none⟩) (by simp) vr⟩
end
end Go.Proofs.YtfgdenmlfloloaaDoor

namespace Go.Proofs.YtfgdenmlfloloaaDoor
open Go.RowKit
set_option maxRecDepth 100000
theorem own_noneC (w : World) (base : Nat) (hb : base ≤ w.heap.size) : (w.alloc (.cells #[] 43)).ownsRow base 43 3 (.slice (some ⟨w.heap.size, 0, none⟩) 0 0) 0 [] :=
  World.ownsRow_lit (base := base) (e := 43) (size := 3) w #[] 0 hb (by unfold maxLen; omega) rfl
theorem wpList_appendCs {w : World} {ops : Array Oper} {rest : List Oper} {o : Oper} {a : Act} {Q : Exit → Act → World → Prop} (hgd : o.guard = none) (s x : Operand)
    (ho : o.op = .call { callee := .builtin .append, args := #[s, x], argTypes := #[23, 23] })
    (base : Nat) (v : Value) (n : Nat) (vs : List Value) (hs : a.eval s = v) (hown : w.ownsRow base 43 3 v n vs) (A : Option Addr) (m c : Nat) (ys : List Value) (hx : a.eval x = .slice A m c) (hl : ys.length = m * 3)
    (hA : 0 < m → ∃ ad, A = some ad ∧ ∀ j u, ys[j]? = some u → w.cell? (ad.add j) = some u) (h1 : ∀ u ∈ ys, u.oneCell' = true) (hn : n + m ≤ 1099511627776) (hbase : base ≤ w.heap.size)
    (h : ∀ v' w', w'.ownsRow base 43 3 v' (n + m) (vs ++ ys) → w.grownBy w' v.ownBlock → (v'.ownBlock = v.ownBlock ∨ v'.ownBlock = some w.heap.size) → wpList Tryd.prog ops Q rest (a.put o.dst v') w') : wpList Tryd.prog ops Q (o :: rest) a w :=
  wpList_plain hgd fun _ hK => app_stepCs hgd s x ho base v n vs hs hown A m c ys hx hl hA h1 hn hbase fun v' w' e1 e2 e3 => hK _ _ (h v' w' e1 e2 e3)
/-- cells, copied whole -/
theorem cloneC_any (A : Option Addr) (n c : Nat) (cs : List Cl) (rvs : List Value) (w : World) (hl : cs.length = n) (hr : RefsAt w w.heap.size cs rvs)
    (hA : 0 < n → ∃ g o, A = some ⟨g, o, none⟩ ∧ g < w.heap.size ∧ ∀ (j : Nat) (u : Value), (flatC cs rvs)[j]? = some u → w.cell? ⟨g, o + j, none⟩ = some u) (hn : n ≤ 1099511627776) :
    Calls Tryd.prog 114 #[.slice A n c] w fun e w' => ∃ v, e = .returned v ∧ w'.ownsRow w.heap.size 43 3 v n (flatC cs rvs) ∧ Below w.heap.size w w' := by
  have q : ∀ (w : World) (a : Option Addr) (n c n' c' : Nat), (binOp .eql 23 (.slice a n c) (.slice none n' c')).run Tryd.prog w = .ok (.bool a.isNone) w := fun w a n c n' c' => Lib.run_eql_slice_nil w _ _ a n c n' c' Tryd.underlying23
  have hfl := flatC_length _ _ hr.1
  rw [hl] at hfl
  cases A with
  | none =>
    have h0 : n = 0 := by
      rcases Nat.eq_zero_or_pos n with h0 | h0
      · exact h0
      · obtain ⟨g, o, e, _⟩ := hA h0
        cases e
    subst h0
    have hnil : flatC cs rvs = [] := List.eq_nil_of_length_eq_zero (by omega)
    rw [hnil]
    clear hfl hA hr
    go_enter Tryd.func114, Tryd.ntmps114
    go_wp2
    go_ret
    exact ⟨_, rfl, World.ownsRow_nil _ _ _ _, Below.refl _ _⟩
  | some a =>
    have o0 := own_noneC w w.heap.size (Nat.le_refl _)
    have bl0 : Below w.heap.size w (w.alloc (.cells #[] 43)) := (Below.refl _ _).alloc (Nat.le_refl _) _
    have hone := hr.one
    obtain ⟨ys, hys⟩ : ∃ ys, flatC cs rvs = ys := ⟨_, rfl⟩
    rw [hys] at hA hfl hone ⊢
    have hA2 : 0 < n → ∃ ad, some a = some ad ∧ ∀ (j : Nat) (u : Value), ys[j]? = some u → (w.alloc (.cells #[] 43)).cell? (ad.add j) = some u := fun h0 => by
      obtain ⟨g, o, e, hg, hc⟩ := hA h0
      refine ⟨a, rfl, fun j u hu => ?_⟩
      rw [Option.some.inj e, add_lit]
      exact (bl0.cell (p := ⟨g, o + j, none⟩) hg).trans (hc j u hu)
    clear hr hA hys hl
    go_enter Tryd.func114, Tryd.ntmps114
    go_wp2_with (at_builtin; refine wpList_appendCs rfl (.tmp 5) (.tmp 6) rfl w.heap.size _ 0 [] rfl o0 (some a) n c ys rfl hfl hA2 hone (by omega) (by simp) ?_; intro v1 w1 o1 g1 s1)
    go_ret
    refine ⟨_, rfl, ?_, bl0.grown g1 (by simp) (fun k hk => (World.ownsRow.lt o0 k hk).1)⟩
    simpa using o1
/-- a copy of which the first k cells have references of their own; the others share theirs still -/
structure MidH (w : World) (base : Nat) (vc vr : Value) (ovs rvs : List Value) (k : Nat) (h : Hp) : Prop where
  len : ovs.length = k
  le : k ≤ h.cs.length
  all : rvs.length = h.cs.length
  row : w.ownsRow base 43 3 vc h.cs.length (flatC h.cs (ovs ++ rvs.drop k))
  refs : ∀ (j : Nat) (c : Cl) (v : Value), h.cs[j]? = some c → ovs[j]? = some v → OwnI w base v c.r
  roots : OwnI w base vr h.rt
  sep : Sep (vc :: vr :: ovs)
section
variable {w w' : World} {base k : Nat} {vc vr v : Value} {ovs rvs : List Value} {h : Hp}
theorem MidH.below (S : MidH w base vc vr ovs rvs k h) {B : Nat} (hb : Below B w w') (hB : w.heap.size ≤ B) : MidH w' base vc vr ovs rvs k h :=
  ⟨S.len, S.le, S.all, row_below S.row hb hB, fun j c v hc hv => (S.refs j c v hc hv).below hb hB, S.roots.below hb hB, S.sep⟩
theorem MidH.blocks (S : MidH w base vc vr ovs rvs k h) {v : Value} (hv : v ∈ vc :: vr :: ovs) {b : Nat} (hb : v.ownBlock = some b) : base ≤ b ∧ b < w.heap.size := by
  simp only [List.mem_cons] at hv
  rcases hv with rfl | rfl | hv
  · exact World.ownsRow.lt S.row b hb
  · exact World.ownsRow.lt S.roots b hb
  · obtain ⟨i, hi⟩ := List.mem_iff_getElem?.1 hv
    have hlt := (List.getElem?_eq_some_iff.1 hi).1
    have hc := List.getElem?_eq_getElem (show i < h.cs.length by have := S.len; have := S.le; omega)
    exact World.ownsRow.lt (S.refs i _ v hc hi) b hb
/-- what lies in no block of the copy's is apart from it -/
theorem MidH.apart_new (S : MidH w base vc vr ovs rvs k h) {b : Nat} (hb : w.heap.size ≤ b) : Apart (some b) (vc :: vr :: ovs) := fun v hv => by
  cases e : v.ownBlock with
  | none => exact .inl rfl
  | some q =>
    right
    have := (S.blocks hv e).2
    intro he
    have he := Option.some.inj he
    omega
theorem MidH.far (S : MidH w base vc vr ovs rvs k h) {row : Option Nat} (hg : w.grownBy w' row) (ha : Apart row (vc :: vr :: ovs)) : MidH w' base vc vr ovs rvs k h :=
  ⟨S.len, S.le, S.all, World.ownsRow.kept S.row hg (ha vc (by simp)), fun j c v hc hv => (S.refs j c v hc hv).far hg (ha v (by simp [List.mem_of_getElem? hv])), S.roots.far hg (ha vr (by simp)), S.sep⟩
theorem MidH.base' (S : MidH w base vc vr ovs rvs k h) {b : Nat} (hb : b ≤ base) : MidH w b vc vr ovs rvs k h :=
  ⟨S.len, S.le, S.all, row_base S.row hb, fun j c v hc hv => (S.refs j c v hc hv).base hb, S.roots.base hb, S.sep⟩
/-- the next cell gets references of its own -/
theorem MidH.next {g n c : Nat} {cl : Cl} (S : MidH w base (.slice (some ⟨g, 0, none⟩) n c) vr ovs rvs k h) (hn : h.cs.length = n) (hc : h.cs[k]? = some cl) (o : OwnI w base v cl.r)
    (hap : ∀ u ∈ (Value.slice (some ⟨g, 0, none⟩) n c) :: vr :: ovs, v.ownBlock = none ∨ v.ownBlock ≠ u.ownBlock) : MidH (w.setCell ⟨g, k * 3 + 2, none⟩ v) base (.slice (some ⟨g, 0, none⟩) n c) vr (ovs ++ [v]) rvs (k + 1) h := by
  have hk : k < h.cs.length := (List.getElem?_eq_some_iff.1 hc).1
  have hsp := S.sep
  unfold Sep at hsp
  rw [List.pairwise_cons, List.pairwise_cons] at hsp
  have ap : ∀ u ∈ vr :: ovs, u.ownBlock = none ∨ u.ownBlock ≠ some g := fun u hu => sep_back (hsp.1 u hu)
  have hvg : v.ownBlock = none ∨ v.ownBlock ≠ some g := hap (.slice (some ⟨g, 0, none⟩) n c) (by simp)
  refine ⟨by simp [S.len], by omega, S.all, ?_, fun j c' u hc' hu => ?_, S.roots.far (put_any w g _ _) (ap vr (by simp)), ?_⟩
  · have hrow : w.ownsRow base 43 3 (.slice (some ⟨g, 0, none⟩) h.cs.length c) h.cs.length (flatC h.cs (ovs ++ rvs.drop k)) := by
      have := S.row
      rwa [hn] at this ⊢
    have q := (World.ownsRow.stored hrow (k * 3 + 2) v).1
    rw [flatC_set_r _ _ _ _ _ cl.r (by simp [S.len, S.all]; omega) hc] at q
    have e1 : h.cs.set k ⟨cl.u, cl.d, cl.r⟩ = h.cs := by
      obtain ⟨h1, h2⟩ := List.getElem?_eq_some_iff.1 hc
      show h.cs.set k cl = h.cs
      rw [← h2]
      exact List.set_getElem_self h1
    have e2 : (ovs ++ rvs.drop k).set k v = (ovs ++ [v]) ++ rvs.drop (k + 1) := by
      rw [List.set_append_right _ _ (by rw [S.len]; exact Nat.le_refl _), S.len, Nat.sub_self, List.append_assoc]
      congr 1
      rw [List.drop_eq_getElem_cons (by rw [S.all]; exact hk)]
      rfl
    rw [e1, e2] at q
    rw [hn] at q ⊢
    exact q
  · rcases Nat.lt_or_ge j k with hj | hj
    · rw [List.getElem?_append_left (by rw [S.len]; exact hj)] at hu
      exact (S.refs j c' u hc' hu).far (put_any w g _ _) (ap u (by simp [List.mem_of_getElem? hu]))
    · have hjk : j = k := by
        have := (List.getElem?_eq_some_iff.1 hu).1
        simp [S.len] at this
        omega
      subst hjk
      rw [hc] at hc'
      rw [List.getElem?_append_right (by rw [S.len]; exact Nat.le_refl _), S.len, Nat.sub_self] at hu
      have hu : v = u := by simpa using hu
      rw [← hu, ← Option.some.inj hc']
      exact o.far (put_any w g _ _) hvg
  · unfold Sep
    rw [List.pairwise_cons, List.pairwise_cons]
    refine ⟨fun u hu => ?_, fun u hu => ?_, ?_⟩
    · rw [List.mem_cons, List.mem_append, List.mem_singleton] at hu
      rcases hu with rfl | hu | rfl
      · exact hsp.1 u (by simp)
      · exact hsp.1 u (by simp [hu])
      · exact sep_back (hap _ (by simp))
    · rw [List.mem_append, List.mem_singleton] at hu
      rcases hu with hu | rfl
      · exact hsp.2.1 u hu
      · exact sep_back (hap _ (by simp))
    · rw [List.pairwise_append]
      refine ⟨hsp.2.2, List.pairwise_singleton _ _, fun a ha b hb => ?_⟩
      rw [List.mem_singleton] at hb
      subst hb
      exact sep_back (hap a (by simp [ha]))
theorem MidH.done (S : MidH w base vc vr ovs rvs k h) (hk : k = h.cs.length) : OwnHx w base vc vr ovs h := by
  refine ⟨by rw [S.len, hk], ?_, S.refs, S.roots, S.sep⟩
  have := S.row
  rwa [hk, List.drop_of_length_le (by rw [S.all]; exact Nat.le_refl _), List.append_nil] at this
theorem MidH.form (S : MidH w base vc vr ovs rvs k h) : ∃ A c R d, vc = .slice A h.cs.length c ∧ vr = .slice R h.rt.length d ∧ h.cs.length ≤ c ∧ (0 < h.cs.length → ∃ g, A = some ⟨g, 0, none⟩ ∧ base ≤ g ∧ g < w.heap.size) := by
  obtain ⟨R, d, rfl, hR⟩ := S.roots.form
  rcases S.row.2 with ⟨e, h0⟩ | ⟨g, cap, cur, e, hb, hh, hc, _⟩
  · exact ⟨none, 0, R, d, by rw [e, h0], rfl, by omega, fun h => by omega⟩
  · exact ⟨some ⟨g, 0, none⟩, cap, R, d, e, rfl, hc, fun _ => ⟨g, rfl, hb, (Array.getElem?_eq_some_iff.1 hh).1⟩⟩
/-- the references that the next cell still shares -/
theorem MidH.ref {g n c : Nat} {cl : Cl} {B : Nat} (S : MidH w base (.slice (some ⟨g, 0, none⟩) n c) vr ovs rvs k h) (hn : h.cs.length = n) (hc : h.cs[k]? = some cl) (hr : RefsAt w B h.cs rvs) :
    ∃ A m cc, w.cell? ⟨g, k * 3 + 2, none⟩ = some (.slice A m cc) ∧ m ≤ cc ∧ IS w B A m cl.r ∧ ∀ i, w.frozen? ⟨g, i, none⟩ = false := by
  have hk : k < h.cs.length := (List.getElem?_eq_some_iff.1 hc).1
  have hv := List.getElem?_eq_getElem (show k < rvs.length by rw [S.all]; exact hk)
  obtain ⟨A, m, cc, e, hm, hi⟩ := hr.2 k cl _ hc hv
  have hv2 : (ovs ++ rvs.drop k)[k]? = some (.slice A m cc) := by
    rw [List.getElem?_append_right (by rw [S.len]; exact Nat.le_refl _), S.len, Nat.sub_self, List.getElem?_drop, Nat.add_zero, hv, e]
  obtain ⟨_, _, f3⟩ := flatC_at _ _ _ _ _ hc hv2
  have hrow : w.ownsRow base 43 3 (.slice (some ⟨g, 0, none⟩) h.cs.length c) h.cs.length (flatC h.cs (ovs ++ rvs.drop k)) := by
    have := S.row
    rwa [hn] at this ⊢
  exact ⟨A, m, cc, (World.ownsRow.cellAt hrow _ (by omega)).trans f3, hm, hi, fun i => World.ownsRow.frozenAt hrow i⟩
end
end Go.Proofs.YtfgdenmlfloloaaDoor

namespace Go.Proofs.YtfgdenmlfloloaaDoor
open Go.RowKit
set_option maxRecDepth 100000
namespace Hps
theorem canH_parts {h : Hp} {o : Cm} (hc : canH h o = true) : validH h = true ∧ okCm o = true := by
  unfold canH at hc
  rw [Bool.and_eq_true, Bool.and_eq_true] at hc
  exact hc.1
end Hps
set_option maxHeartbeats 4000000 in
theorem l8Do_drop (A R : Option Addr) (n c m d : Nat) (h : Hp) (a : Nat) (ob : Int) (oc : Int) (p : Nat) (w : World) (hs : HS w w.heap.size A n R m h) (hv : Hps.validH h = true) (ha : a < 4) :
    Calls Tryd.prog 68 #[heapV A n c R m d, cmV ⟨5, a, ob, oc⟩, .int .i64 p] w (GaveH w (Hps.doH h ⟨5, a, ob, oc⟩ p)) := by
  have hlc := hs.cells.1
  have hlr := hs.roots.1
  have h40 := (Hps.valid_iff.1 hv).2.1
  obtain rfl : m = 4 := by rw [← hlr]; exact (Hps.valid_iff.1 hv).2.2.1
  have HL := Lib.hid hlr
  have h3 : ∀ cl ∈ h.cs, cl.r.length ≤ 1000000 := fun cl hcl => by have := (Hps.okCell_iff.1 ((Hps.valid_iff.1 hv).1 cl hcl)).2.2.1; omega
  have b3 : Below w.heap.size w (((w.alloc (.cells #[.slice A n c, .slice R 4 d] 26)).alloc (.cells #[.int .i64 5, .int .i64 a, .int .i64 ob, .int .i64 oc] 36)).alloc (.cells #[.slice none 0 0, .slice none 0 0] 26)) := (((Below.refl w.heap.size w).alloc (Nat.le_refl _) _).alloc (by simp) _).alloc (by simp; omega) _
  have s3 := hs.up b3
  have q0 := ((Rw.new w 26 #[.slice A n c, .slice R 4 d]).alloc (.cells #[.int .i64 5, .int .i64 a, .int .i64 ob, .int .i64 oc] 36)).alloc (.cells #[.slice none 0 0, .slice none 0 0] 26)
  have q1 := (Rw.new (w.alloc (.cells #[.slice A n c, .slice R 4 d] 26)) 36 #[.int .i64 5, .int .i64 a, .int .i64 ob, .int .i64 oc]).alloc (.cells #[.slice none 0 0, .slice none 0 0] 26)
  have q2 := Rw.new ((w.alloc (.cells #[.slice A n c, .slice R 4 d] 26)).alloc (.cells #[.int .i64 5, .int .i64 a, .int .i64 ob, .int .i64 oc] 36)) 26 #[.slice none 0 0, .slice none 0 0]
  simp only [World.size_alloc, Nat.add_assoc, Nat.reduceAdd] at q1 q2
  clear hlr
  go_enter Tryd.func68, Tryd.ntmps68
  go_wp2_with fail
  refine (l7Copy_any _ _ _ _ _ _ h _ s3 (by omega) (by omega) h3).mono ?_
  rintro e w1 ⟨vc, vr, rfl, ⟨rvs, own⟩, b1⟩
  replace q0 := q0.keep b1 q0.lt
  replace q1 := q1.keep b1 q1.lt
  replace q2 := q2.keep b1 q2.lt
  replace b3 := b3.trans (b1.mono b3.size)
  simp only [World.size_alloc, Nat.add_assoc, Nat.reduceAdd] at own b1
  have hsz : w.heap.size + 3 ≤ w1.heap.size := by have := b1.size; simp at this; omega
  obtain ⟨Ac, cc, Rc, dc, rfl, rfl, hcc, hdc, fA, fR⟩ := own.form
  rw [hlc] at own fA hcc ⊢
  rw [HL.out] at own fR hdc ⊢
  obtain ⟨gr, rfl, hgr1, hgr2⟩ := fR (by omega)
  have S : DoSt w (w1.alloc (.cells #[.slice Ac n cc, .slice (some ⟨gr, 0, none⟩) 4 dc] 26)) w1.heap.size #[.slice A n c, .slice R 4 d] #[.int .i64 5, .int .i64 a, .int .i64 ob, .int .i64 oc] #[.slice none 0 0, .slice none 0 0] (.slice Ac n cc) (.slice (some ⟨gr, 0, none⟩) 4 dc) rvs h :=
    ⟨own.below ((Below.refl w1.heap.size w1).alloc (Nat.le_refl _) _) (Nat.le_refl _), own.apart_new (Nat.le_refl _), Rw.new w1 _ _, q0.alloc _, q1.alloc _, q2.alloc _, b3.alloc b3.size _, hsz⟩
  clear b1 s3 h3 fR own q0 q1 q2 b3
  go_upto_region 2 with fail
  generalize w1.alloc (.cells #[.slice Ac n cc, .slice (some ⟨gr, 0, none⟩) 4 dc] 26) = w2 at S ⊢
  have hb := S.lo
  generalize w1.heap.size = b at S hb hgr2 fA ⊢
  clear hsz w1
  have y0 : w2.cell? ⟨w.heap.size + 1, 0, none⟩ = some (.int .i64 5) := S.cmd.cell 0
  have y1 : w2.cell? ⟨w.heap.size + 1, 1, none⟩ = some (.int .i64 a) := S.cmd.cell 1
  have y2 : w2.cell? ⟨w.heap.size + 1, 2, none⟩ = some (.int .i64 ob) := S.cmd.cell 2
  have y3 : w2.cell? ⟨w.heap.size + 1, 3, none⟩ = some (.int .i64 oc) := S.cmd.cell 3
  have x0 : w2.cell? ⟨b, 0, none⟩ = some (.slice Ac n cc) := S.box.cell 0
  have x1 : w2.cell? ⟨b, 1, none⟩ = some (.slice (some ⟨gr, 0, none⟩) 4 dc) := S.box.cell 1
  have hva := Hps.valid_iff.1 hv
  obtain ⟨xo, hxo, cr⟩ := S.own.roots.cell_at (j := a) (by omega)
  have fz : w2.frozen? ⟨gr, a, none⟩ = false := S.own.roots.frozen HL.out a
  have ham : (a : Int) < 4 := by omega
  have S1 := S.root (i := a) HL.out (-1)
  have r0 : (w2.setCell ⟨gr, a, none⟩ (.int .i64 (-1))).cell? ⟨b, 0, none⟩ = some (.slice Ac n cc) := S1.box.cell 0
  have r1 : (w2.setCell ⟨gr, a, none⟩ (.int .i64 (-1))).cell? ⟨b, 1, none⟩ = some (.slice (some ⟨gr, 0, none⟩) 4 dc) := S1.box.cell 1
  have r2 : (w2.setCell ⟨gr, a, none⟩ (.int .i64 (-1))).frozen? ⟨w.heap.size + 1 + 1, 0, none⟩ = false := S1.res.frozen 0
  have r3 : (w2.setCell ⟨gr, a, none⟩ (.int .i64 (-1))).frozen? ⟨w.heap.size + 1 + 1, 1, none⟩ = false := S1.res.frozen 1
  have r4 : (w2.setCell ⟨gr, a, none⟩ (.int .i64 (-1))).cell? ⟨w.heap.size + 1 + 1, 0, none⟩ = some (.slice none 0 0) := S1.res.cell 0
  have r5 : (w2.setCell ⟨gr, a, none⟩ (.int .i64 (-1))).cell? ⟨w.heap.size + 1 + 1, 1, none⟩ = some (.slice none 0 0) := S1.res.cell 1
  have r6 : (((w2.setCell ⟨gr, a, none⟩ (.int .i64 (-1))).setCell ⟨w.heap.size + 1 + 1, 0, none⟩ (.slice Ac n cc)).setCell ⟨w.heap.size + 1 + 1, 1, none⟩ (.slice (some ⟨gr, 0, none⟩) 4 dc)).cell? ⟨w.heap.size + 1 + 1, 0, none⟩ = some (.slice Ac n cc) := ((S1.res.put 0 (.slice Ac n cc)).put 1 (.slice (some ⟨gr, 0, none⟩) 4 dc)).cell 0
  have r7 : (((w2.setCell ⟨gr, a, none⟩ (.int .i64 (-1))).setCell ⟨w.heap.size + 1 + 1, 0, none⟩ (.slice Ac n cc)).setCell ⟨w.heap.size + 1 + 1, 1, none⟩ (.slice (some ⟨gr, 0, none⟩) 4 dc)).cell? ⟨w.heap.size + 1 + 1, 1, none⟩ = some (.slice (some ⟨gr, 0, none⟩) 4 dc) := ((S1.res.put 0 (.slice Ac n cc)).put 1 (.slice (some ⟨gr, 0, none⟩) 4 dc)).cell 1
  have D : Hid (OwnH (((w2.setCell ⟨gr, a, none⟩ (.int .i64 (-1))).setCell ⟨w.heap.size + 1 + 1, 0, none⟩ (.slice Ac n cc)).setCell ⟨w.heap.size + 1 + 1, 1, none⟩ (.slice (some ⟨gr, 0, none⟩) 4 dc)) w.heap.size (.slice Ac n cc) (.slice (some ⟨gr, 0, none⟩) 4 dc) _ ∧ Below w.heap.size w (((w2.setCell ⟨gr, a, none⟩ (.int .i64 (-1))).setCell ⟨w.heap.size + 1 + 1, 0, none⟩ (.slice Ac n cc)).setCell ⟨w.heap.size + 1 + 1, 1, none⟩ (.slice (some ⟨gr, 0, none⟩) 4 dc))) := Lib.hid S1.done
  have HF := Lib.hid (show Hps.doH h ⟨5, a, ob, oc⟩ p = ⟨h.cs, h.rt.set a (-1)⟩ by simp [Hps.doH])
  clear S1
  clear S hva hxo
  go_wp2_with fail
  exact bodyPost_ret (v := .agg #[.slice Ac n cc, .slice (some ⟨gr, 0, none⟩) 4 dc]) (by simp [results, Tryd.results68, go_sem, *]) rfl ⟨_, _, rfl, by rw [HF.out]; exact D.out.1, D.out.2⟩
set_option maxHeartbeats 4000000 in
theorem l8Do_copy (A R : Option Addr) (n c m d : Nat) (h : Hp) (a : Nat) (ob : Nat) (oc : Int) (p : Nat) (w : World) (hs : HS w w.heap.size A n R m h) (hv : Hps.validH h = true) (ha : a < 4) (hb4 : ob < 4) :
    Calls Tryd.prog 68 #[heapV A n c R m d, cmV ⟨4, a, ob, oc⟩, .int .i64 p] w (GaveH w (Hps.doH h ⟨4, a, ob, oc⟩ p)) := by
  have hlc := hs.cells.1
  have hlr := hs.roots.1
  have h40 := (Hps.valid_iff.1 hv).2.1
  obtain rfl : m = 4 := by rw [← hlr]; exact (Hps.valid_iff.1 hv).2.2.1
  have HL := Lib.hid hlr
  have h3 : ∀ cl ∈ h.cs, cl.r.length ≤ 1000000 := fun cl hcl => by have := (Hps.okCell_iff.1 ((Hps.valid_iff.1 hv).1 cl hcl)).2.2.1; omega
  have b3 : Below w.heap.size w (((w.alloc (.cells #[.slice A n c, .slice R 4 d] 26)).alloc (.cells #[.int .i64 4, .int .i64 a, .int .i64 ob, .int .i64 oc] 36)).alloc (.cells #[.slice none 0 0, .slice none 0 0] 26)) := (((Below.refl w.heap.size w).alloc (Nat.le_refl _) _).alloc (by simp) _).alloc (by simp; omega) _
  have s3 := hs.up b3
  have q0 := ((Rw.new w 26 #[.slice A n c, .slice R 4 d]).alloc (.cells #[.int .i64 4, .int .i64 a, .int .i64 ob, .int .i64 oc] 36)).alloc (.cells #[.slice none 0 0, .slice none 0 0] 26)
  have q1 := (Rw.new (w.alloc (.cells #[.slice A n c, .slice R 4 d] 26)) 36 #[.int .i64 4, .int .i64 a, .int .i64 ob, .int .i64 oc]).alloc (.cells #[.slice none 0 0, .slice none 0 0] 26)
  have q2 := Rw.new ((w.alloc (.cells #[.slice A n c, .slice R 4 d] 26)).alloc (.cells #[.int .i64 4, .int .i64 a, .int .i64 ob, .int .i64 oc] 36)) 26 #[.slice none 0 0, .slice none 0 0]
  simp only [World.size_alloc, Nat.add_assoc, Nat.reduceAdd] at q1 q2
  clear hlr
  go_enter Tryd.func68, Tryd.ntmps68
  go_wp2_with fail
  refine (l7Copy_any _ _ _ _ _ _ h _ s3 (by omega) (by omega) h3).mono ?_
  rintro e w1 ⟨vc, vr, rfl, ⟨rvs, own⟩, b1⟩
  replace q0 := q0.keep b1 q0.lt
  replace q1 := q1.keep b1 q1.lt
  replace q2 := q2.keep b1 q2.lt
  replace b3 := b3.trans (b1.mono b3.size)
  simp only [World.size_alloc, Nat.add_assoc, Nat.reduceAdd] at own b1
  have hsz : w.heap.size + 3 ≤ w1.heap.size := by have := b1.size; simp at this; omega
  obtain ⟨Ac, cc, Rc, dc, rfl, rfl, hcc, hdc, fA, fR⟩ := own.form
  rw [hlc] at own fA hcc ⊢
  rw [HL.out] at own fR hdc ⊢
  obtain ⟨gr, rfl, hgr1, hgr2⟩ := fR (by omega)
  have S : DoSt w (w1.alloc (.cells #[.slice Ac n cc, .slice (some ⟨gr, 0, none⟩) 4 dc] 26)) w1.heap.size #[.slice A n c, .slice R 4 d] #[.int .i64 4, .int .i64 a, .int .i64 ob, .int .i64 oc] #[.slice none 0 0, .slice none 0 0] (.slice Ac n cc) (.slice (some ⟨gr, 0, none⟩) 4 dc) rvs h :=
    ⟨own.below ((Below.refl w1.heap.size w1).alloc (Nat.le_refl _) _) (Nat.le_refl _), own.apart_new (Nat.le_refl _), Rw.new w1 _ _, q0.alloc _, q1.alloc _, q2.alloc _, b3.alloc b3.size _, hsz⟩
  clear b1 s3 h3 fR own q0 q1 q2 b3
  go_upto_region 2 with fail
  generalize w1.alloc (.cells #[.slice Ac n cc, .slice (some ⟨gr, 0, none⟩) 4 dc] 26) = w2 at S ⊢
  have hb := S.lo
  generalize w1.heap.size = b at S hb hgr2 fA ⊢
  clear hsz w1
  have y0 : w2.cell? ⟨w.heap.size + 1, 0, none⟩ = some (.int .i64 4) := S.cmd.cell 0
  have y1 : w2.cell? ⟨w.heap.size + 1, 1, none⟩ = some (.int .i64 a) := S.cmd.cell 1
  have y2 : w2.cell? ⟨w.heap.size + 1, 2, none⟩ = some (.int .i64 ob) := S.cmd.cell 2
  have y3 : w2.cell? ⟨w.heap.size + 1, 3, none⟩ = some (.int .i64 oc) := S.cmd.cell 3
  have x0 : w2.cell? ⟨b, 0, none⟩ = some (.slice Ac n cc) := S.box.cell 0
  have x1 : w2.cell? ⟨b, 1, none⟩ = some (.slice (some ⟨gr, 0, none⟩) 4 dc) := S.box.cell 1
  have hva := Hps.valid_iff.1 hv
  have ham : (a : Int) < 4 := by omega
  have AR := hs.up S.bel
  have u0 : w2.cell? ⟨w.heap.size, 0, none⟩ = some (.slice A n c) := S.arg.cell 0
  have u1 : w2.cell? ⟨w.heap.size, 1, none⟩ = some (.slice R 4 d) := S.arg.cell 1
  obtain ⟨g2, o2, x, e1, hg2, hx, d1⟩ := AR.roots.at_ (k := ob) (by omega)
  subst e1
  have hbm : (ob : Int) < 4 := by omega
  have HX := Lib.hid hx
  have SS := Lib.hid S
  clear hx S AR hva y3
  go_wp2_with fail
  go_still_tail 10, (by kernel_rfl)
  change wpList _ _ _ _ _ w2.drew
  have S4 := SS.out.drew
  generalize w2.drew = w4 at S4 ⊢
  obtain ⟨xo, hxo, cr⟩ := S4.own.roots.cell_at (j := a) (by omega)
  have fz : w4.frozen? ⟨gr, a, none⟩ = false := S4.own.roots.frozen HL.out a
  have S1 := S4.root (i := a) HL.out x
  have hx := HX.out
  have r0 : (w4.setCell ⟨gr, a, none⟩ (.int .i64 x)).cell? ⟨b, 0, none⟩ = some (.slice Ac n cc) := S1.box.cell 0
  have r1 : (w4.setCell ⟨gr, a, none⟩ (.int .i64 x)).cell? ⟨b, 1, none⟩ = some (.slice (some ⟨gr, 0, none⟩) 4 dc) := S1.box.cell 1
  have r2 : (w4.setCell ⟨gr, a, none⟩ (.int .i64 x)).frozen? ⟨w.heap.size + 1 + 1, 0, none⟩ = false := S1.res.frozen 0
  have r3 : (w4.setCell ⟨gr, a, none⟩ (.int .i64 x)).frozen? ⟨w.heap.size + 1 + 1, 1, none⟩ = false := S1.res.frozen 1
  have r4 : (w4.setCell ⟨gr, a, none⟩ (.int .i64 x)).cell? ⟨w.heap.size + 1 + 1, 0, none⟩ = some (.slice none 0 0) := S1.res.cell 0
  have r5 : (w4.setCell ⟨gr, a, none⟩ (.int .i64 x)).cell? ⟨w.heap.size + 1 + 1, 1, none⟩ = some (.slice none 0 0) := S1.res.cell 1
  have r6 : (((w4.setCell ⟨gr, a, none⟩ (.int .i64 x)).setCell ⟨w.heap.size + 1 + 1, 0, none⟩ (.slice Ac n cc)).setCell ⟨w.heap.size + 1 + 1, 1, none⟩ (.slice (some ⟨gr, 0, none⟩) 4 dc)).cell? ⟨w.heap.size + 1 + 1, 0, none⟩ = some (.slice Ac n cc) := ((S1.res.put 0 (.slice Ac n cc)).put 1 (.slice (some ⟨gr, 0, none⟩) 4 dc)).cell 0
  have r7 : (((w4.setCell ⟨gr, a, none⟩ (.int .i64 x)).setCell ⟨w.heap.size + 1 + 1, 0, none⟩ (.slice Ac n cc)).setCell ⟨w.heap.size + 1 + 1, 1, none⟩ (.slice (some ⟨gr, 0, none⟩) 4 dc)).cell? ⟨w.heap.size + 1 + 1, 1, none⟩ = some (.slice (some ⟨gr, 0, none⟩) 4 dc) := ((S1.res.put 0 (.slice Ac n cc)).put 1 (.slice (some ⟨gr, 0, none⟩) 4 dc)).cell 1
  have D : Hid (OwnH (((w4.setCell ⟨gr, a, none⟩ (.int .i64 x)).setCell ⟨w.heap.size + 1 + 1, 0, none⟩ (.slice Ac n cc)).setCell ⟨w.heap.size + 1 + 1, 1, none⟩ (.slice (some ⟨gr, 0, none⟩) 4 dc)) w.heap.size (.slice Ac n cc) (.slice (some ⟨gr, 0, none⟩) 4 dc) _ ∧ Below w.heap.size w (((w4.setCell ⟨gr, a, none⟩ (.int .i64 x)).setCell ⟨w.heap.size + 1 + 1, 0, none⟩ (.slice Ac n cc)).setCell ⟨w.heap.size + 1 + 1, 1, none⟩ (.slice (some ⟨gr, 0, none⟩) 4 dc))) := Lib.hid S1.done
  have HF := Lib.hid (show Hps.doH h ⟨4, a, ob, oc⟩ p = ⟨h.cs, h.rt.set a x⟩ by simp [Hps.doH, Hps.rootAt, hx])
  clear S1
  clear S4 hxo hx
  go_wp2_with fail
  exact bodyPost_ret (v := .agg #[.slice Ac n cc, .slice (some ⟨gr, 0, none⟩) 4 dc]) (by simp [results, Tryd.results68, go_sem, *]) rfl ⟨_, _, rfl, by rw [HF.out]; exact D.out.1, D.out.2⟩
set_option maxHeartbeats 4000000 in
theorem l8Do_get (A R : Option Addr) (n c m d : Nat) (h : Hp) (a : Nat) (ob : Nat) (oc : Nat) (p : Nat) (w : World) (hs : HS w w.heap.size A n R m h) (hv : Hps.validH h = true) (ha : a < 4) (hb4 : ob < 4) (k : Nat) (cl : Cl) (hk : Hps.rootAt h ob = k) (hcl : h.cs[k]? = some cl) (hoc : oc < cl.r.length) :
    Calls Tryd.prog 68 #[heapV A n c R m d, cmV ⟨2, a, ob, oc⟩, .int .i64 p] w (GaveH w (Hps.doH h ⟨2, a, ob, oc⟩ p)) := by
  have hlc := hs.cells.1
  have hlr := hs.roots.1
  have h40 := (Hps.valid_iff.1 hv).2.1
  obtain rfl : m = 4 := by rw [← hlr]; exact (Hps.valid_iff.1 hv).2.2.1
  have HL := Lib.hid hlr
  have h3 : ∀ cl ∈ h.cs, cl.r.length ≤ 1000000 := fun cl hcl => by have := (Hps.okCell_iff.1 ((Hps.valid_iff.1 hv).1 cl hcl)).2.2.1; omega
  have b3 : Below w.heap.size w (((w.alloc (.cells #[.slice A n c, .slice R 4 d] 26)).alloc (.cells #[.int .i64 2, .int .i64 a, .int .i64 ob, .int .i64 oc] 36)).alloc (.cells #[.slice none 0 0, .slice none 0 0] 26)) := (((Below.refl w.heap.size w).alloc (Nat.le_refl _) _).alloc (by simp) _).alloc (by simp; omega) _
  have s3 := hs.up b3
  have q0 := ((Rw.new w 26 #[.slice A n c, .slice R 4 d]).alloc (.cells #[.int .i64 2, .int .i64 a, .int .i64 ob, .int .i64 oc] 36)).alloc (.cells #[.slice none 0 0, .slice none 0 0] 26)
  have q1 := (Rw.new (w.alloc (.cells #[.slice A n c, .slice R 4 d] 26)) 36 #[.int .i64 2, .int .i64 a, .int .i64 ob, .int .i64 oc]).alloc (.cells #[.slice none 0 0, .slice none 0 0] 26)
  have q2 := Rw.new ((w.alloc (.cells #[.slice A n c, .slice R 4 d] 26)).alloc (.cells #[.int .i64 2, .int .i64 a, .int .i64 ob, .int .i64 oc] 36)) 26 #[.slice none 0 0, .slice none 0 0]
  simp only [World.size_alloc, Nat.add_assoc, Nat.reduceAdd] at q1 q2
  clear hlr
  go_enter Tryd.func68, Tryd.ntmps68
  go_wp2_with fail
  refine (l7Copy_any _ _ _ _ _ _ h _ s3 (by omega) (by omega) h3).mono ?_
  rintro e w1 ⟨vc, vr, rfl, ⟨rvs, own⟩, b1⟩
  replace q0 := q0.keep b1 q0.lt
  replace q1 := q1.keep b1 q1.lt
  replace q2 := q2.keep b1 q2.lt
  replace b3 := b3.trans (b1.mono b3.size)
  simp only [World.size_alloc, Nat.add_assoc, Nat.reduceAdd] at own b1
  have hsz : w.heap.size + 3 ≤ w1.heap.size := by have := b1.size; simp at this; omega
  obtain ⟨Ac, cc, Rc, dc, rfl, rfl, hcc, hdc, fA, fR⟩ := own.form
  rw [hlc] at own fA hcc ⊢
  rw [HL.out] at own fR hdc ⊢
  obtain ⟨gr, rfl, hgr1, hgr2⟩ := fR (by omega)
  have S : DoSt w (w1.alloc (.cells #[.slice Ac n cc, .slice (some ⟨gr, 0, none⟩) 4 dc] 26)) w1.heap.size #[.slice A n c, .slice R 4 d] #[.int .i64 2, .int .i64 a, .int .i64 ob, .int .i64 oc] #[.slice none 0 0, .slice none 0 0] (.slice Ac n cc) (.slice (some ⟨gr, 0, none⟩) 4 dc) rvs h :=
    ⟨own.below ((Below.refl w1.heap.size w1).alloc (Nat.le_refl _) _) (Nat.le_refl _), own.apart_new (Nat.le_refl _), Rw.new w1 _ _, q0.alloc _, q1.alloc _, q2.alloc _, b3.alloc b3.size _, hsz⟩
  clear b1 s3 h3 fR own q0 q1 q2 b3
  go_upto_region 2 with fail
  generalize w1.alloc (.cells #[.slice Ac n cc, .slice (some ⟨gr, 0, none⟩) 4 dc] 26) = w2 at S ⊢
  have hb := S.lo
  generalize w1.heap.size = b at S hb hgr2 fA ⊢
  clear hsz w1
  have y0 : w2.cell? ⟨w.heap.size + 1, 0, none⟩ = some (.int .i64 2) := S.cmd.cell 0
  have y1 : w2.cell? ⟨w.heap.size + 1, 1, none⟩ = some (.int .i64 a) := S.cmd.cell 1
  have y2 : w2.cell? ⟨w.heap.size + 1, 2, none⟩ = some (.int .i64 ob) := S.cmd.cell 2
  have y3 : w2.cell? ⟨w.heap.size + 1, 3, none⟩ = some (.int .i64 oc) := S.cmd.cell 3
  have x0 : w2.cell? ⟨b, 0, none⟩ = some (.slice Ac n cc) := S.box.cell 0
  have x1 : w2.cell? ⟨b, 1, none⟩ = some (.slice (some ⟨gr, 0, none⟩) 4 dc) := S.box.cell 1
  have hva := Hps.valid_iff.1 hv
  have ham : (a : Int) < 4 := by omega
  have AR := hs.up S.bel
  have u0 : w2.cell? ⟨w.heap.size, 0, none⟩ = some (.slice A n c) := S.arg.cell 0
  have u1 : w2.cell? ⟨w.heap.size, 1, none⟩ = some (.slice R 4 d) := S.arg.cell 1
  obtain ⟨g2, o2, x, e1, hg2, hx, d1⟩ := AR.roots.at_ (k := ob) (by omega)
  subst e1
  have hbm : (ob : Int) < 4 := by omega
  have ex : x = (k : Int) := by rw [← hk]; simp [Hps.rootAt, hx]
  subst ex
  have hkl := (List.getElem?_eq_some_iff.1 hcl).1
  obtain ⟨g3, o3, cl', A', m', cc', e3, hg3, hcl', _, _, d2, hmc, hi⟩ := AR.cells.at_ (k := k) (by omega)
  rw [hcl] at hcl'
  injection hcl' with hcl'
  subst hcl' e3
  have hil := hi.1
  obtain ⟨g4, o4, y, e4, hg4, hy, d3⟩ := hi.at_ (k := oc) (by omega)
  subst e4
  have hkn : (k : Int) < n := by omega
  have hom : (oc : Int) < m' := by omega
  have HY := Lib.hid hy
  have HC := Lib.hid hcl
  have HK := Lib.hid hk
  have SS := Lib.hid S
  clear hx S AR hva hy hcl hk hil hi hoc hkl
  go_wp2_with fail
  go_still_tail 19, (by kernel_rfl)
  change wpList _ _ _ _ _ w2.drew
  have S4 := SS.out.drew
  generalize w2.drew = w4 at S4 ⊢
  obtain ⟨xo, hxo, cr⟩ := S4.own.roots.cell_at (j := a) (by omega)
  have fz : w4.frozen? ⟨gr, a, none⟩ = false := S4.own.roots.frozen HL.out a
  have S1 := S4.root (i := a) HL.out y
  have hcl := HC.out
  have hy := HY.out
  have hk := HK.out
  have r0 : (w4.setCell ⟨gr, a, none⟩ (.int .i64 y)).cell? ⟨b, 0, none⟩ = some (.slice Ac n cc) := S1.box.cell 0
  have r1 : (w4.setCell ⟨gr, a, none⟩ (.int .i64 y)).cell? ⟨b, 1, none⟩ = some (.slice (some ⟨gr, 0, none⟩) 4 dc) := S1.box.cell 1
  have r2 : (w4.setCell ⟨gr, a, none⟩ (.int .i64 y)).frozen? ⟨w.heap.size + 1 + 1, 0, none⟩ = false := S1.res.frozen 0
  have r3 : (w4.setCell ⟨gr, a, none⟩ (.int .i64 y)).frozen? ⟨w.heap.size + 1 + 1, 1, none⟩ = false := S1.res.frozen 1
  have r4 : (w4.setCell ⟨gr, a, none⟩ (.int .i64 y)).cell? ⟨w.heap.size + 1 + 1, 0, none⟩ = some (.slice none 0 0) := S1.res.cell 0
  have r5 : (w4.setCell ⟨gr, a, none⟩ (.int .i64 y)).cell? ⟨w.heap.size + 1 + 1, 1, none⟩ = some (.slice none 0 0) := S1.res.cell 1
  have r6 : (((w4.setCell ⟨gr, a, none⟩ (.int .i64 y)).setCell ⟨w.heap.size + 1 + 1, 0, none⟩ (.slice Ac n cc)).setCell ⟨w.heap.size + 1 + 1, 1, none⟩ (.slice (some ⟨gr, 0, none⟩) 4 dc)).cell? ⟨w.heap.size + 1 + 1, 0, none⟩ = some (.slice Ac n cc) := ((S1.res.put 0 (.slice Ac n cc)).put 1 (.slice (some ⟨gr, 0, none⟩) 4 dc)).cell 0
  have r7 : (((w4.setCell ⟨gr, a, none⟩ (.int .i64 y)).setCell ⟨w.heap.size + 1 + 1, 0, none⟩ (.slice Ac n cc)).setCell ⟨w.heap.size + 1 + 1, 1, none⟩ (.slice (some ⟨gr, 0, none⟩) 4 dc)).cell? ⟨w.heap.size + 1 + 1, 1, none⟩ = some (.slice (some ⟨gr, 0, none⟩) 4 dc) := ((S1.res.put 0 (.slice Ac n cc)).put 1 (.slice (some ⟨gr, 0, none⟩) 4 dc)).cell 1
  have D : Hid (OwnH (((w4.setCell ⟨gr, a, none⟩ (.int .i64 y)).setCell ⟨w.heap.size + 1 + 1, 0, none⟩ (.slice Ac n cc)).setCell ⟨w.heap.size + 1 + 1, 1, none⟩ (.slice (some ⟨gr, 0, none⟩) 4 dc)) w.heap.size (.slice Ac n cc) (.slice (some ⟨gr, 0, none⟩) 4 dc) _ ∧ Below w.heap.size w (((w4.setCell ⟨gr, a, none⟩ (.int .i64 y)).setCell ⟨w.heap.size + 1 + 1, 0, none⟩ (.slice Ac n cc)).setCell ⟨w.heap.size + 1 + 1, 1, none⟩ (.slice (some ⟨gr, 0, none⟩) 4 dc))) := Lib.hid S1.done
  have HF := Lib.hid (show Hps.doH h ⟨2, a, ob, oc⟩ p = ⟨h.cs, h.rt.set a y⟩ by simp [Hps.doH, Hps.refAt, hk, hcl, hy])
  clear S1
  clear S4 hxo hy hcl hk
  go_wp2_with fail
  exact bodyPost_ret (v := .agg #[.slice Ac n cc, .slice (some ⟨gr, 0, none⟩) 4 dc]) (by simp [results, Tryd.results68, go_sem, *]) rfl ⟨_, _, rfl, by rw [HF.out]; exact D.out.1, D.out.2⟩
set_option maxHeartbeats 4000000 in
theorem l8Do_set (A R : Option Addr) (n c m d : Nat) (h : Hp) (a : Nat) (ob : Nat) (oc : Nat) (p : Nat) (w : World) (hs : HS w w.heap.size A n R m h) (hv : Hps.validH h = true) (ha : a < 4) (hb4 : ob < 4) (k : Nat) (cl : Cl) (hk : Hps.rootAt h a = k) (hcl : h.cs[k]? = some cl) (hoc : oc < cl.r.length) :
    Calls Tryd.prog 68 #[heapV A n c R m d, cmV ⟨3, a, ob, oc⟩, .int .i64 p] w (GaveH w (Hps.doH h ⟨3, a, ob, oc⟩ p)) := by
  have hlc := hs.cells.1
  have hlr := hs.roots.1
  have h40 := (Hps.valid_iff.1 hv).2.1
  obtain rfl : m = 4 := by rw [← hlr]; exact (Hps.valid_iff.1 hv).2.2.1
  have HL := Lib.hid hlr
  have h3 : ∀ cl ∈ h.cs, cl.r.length ≤ 1000000 := fun cl hcl => by have := (Hps.okCell_iff.1 ((Hps.valid_iff.1 hv).1 cl hcl)).2.2.1; omega
  have b3 : Below w.heap.size w (((w.alloc (.cells #[.slice A n c, .slice R 4 d] 26)).alloc (.cells #[.int .i64 3, .int .i64 a, .int .i64 ob, .int .i64 oc] 36)).alloc (.cells #[.slice none 0 0, .slice none 0 0] 26)) := (((Below.refl w.heap.size w).alloc (Nat.le_refl _) _).alloc (by simp) _).alloc (by simp; omega) _
  have s3 := hs.up b3
  have q0 := ((Rw.new w 26 #[.slice A n c, .slice R 4 d]).alloc (.cells #[.int .i64 3, .int .i64 a, .int .i64 ob, .int .i64 oc] 36)).alloc (.cells #[.slice none 0 0, .slice none 0 0] 26)
  have q1 := (Rw.new (w.alloc (.cells #[.slice A n c, .slice R 4 d] 26)) 36 #[.int .i64 3, .int .i64 a, .int .i64 ob, .int .i64 oc]).alloc (.cells #[.slice none 0 0, .slice none 0 0] 26)
  have q2 := Rw.new ((w.alloc (.cells #[.slice A n c, .slice R 4 d] 26)).alloc (.cells #[.int .i64 3, .int .i64 a, .int .i64 ob, .int .i64 oc] 36)) 26 #[.slice none 0 0, .slice none 0 0]
  simp only [World.size_alloc, Nat.add_assoc, Nat.reduceAdd] at q1 q2
  clear hlr
  go_enter Tryd.func68, Tryd.ntmps68
  go_wp2_with fail
  refine (l7Copy_any _ _ _ _ _ _ h _ s3 (by omega) (by omega) h3).mono ?_
  rintro e w1 ⟨vc, vr, rfl, ⟨rvs, own⟩, b1⟩
  replace q0 := q0.keep b1 q0.lt
  replace q1 := q1.keep b1 q1.lt
  replace q2 := q2.keep b1 q2.lt
  replace b3 := b3.trans (b1.mono b3.size)
  simp only [World.size_alloc, Nat.add_assoc, Nat.reduceAdd] at own b1
  have hsz : w.heap.size + 3 ≤ w1.heap.size := by have := b1.size; simp at this; omega
  obtain ⟨Ac, cc, Rc, dc, rfl, rfl, hcc, hdc, fA, fR⟩ := own.form
  rw [hlc] at own fA hcc ⊢
  rw [HL.out] at own fR hdc ⊢
  obtain ⟨gr, rfl, hgr1, hgr2⟩ := fR (by omega)
  have S : DoSt w (w1.alloc (.cells #[.slice Ac n cc, .slice (some ⟨gr, 0, none⟩) 4 dc] 26)) w1.heap.size #[.slice A n c, .slice R 4 d] #[.int .i64 3, .int .i64 a, .int .i64 ob, .int .i64 oc] #[.slice none 0 0, .slice none 0 0] (.slice Ac n cc) (.slice (some ⟨gr, 0, none⟩) 4 dc) rvs h :=
    ⟨own.below ((Below.refl w1.heap.size w1).alloc (Nat.le_refl _) _) (Nat.le_refl _), own.apart_new (Nat.le_refl _), Rw.new w1 _ _, q0.alloc _, q1.alloc _, q2.alloc _, b3.alloc b3.size _, hsz⟩
  clear b1 s3 h3 fR own q0 q1 q2 b3
  go_upto_region 2 with fail
  generalize w1.alloc (.cells #[.slice Ac n cc, .slice (some ⟨gr, 0, none⟩) 4 dc] 26) = w2 at S ⊢
  have hb := S.lo
  generalize w1.heap.size = b at S hb hgr2 fA ⊢
  clear hsz w1
  have y0 : w2.cell? ⟨w.heap.size + 1, 0, none⟩ = some (.int .i64 3) := S.cmd.cell 0
  have y1 : w2.cell? ⟨w.heap.size + 1, 1, none⟩ = some (.int .i64 a) := S.cmd.cell 1
  have y2 : w2.cell? ⟨w.heap.size + 1, 2, none⟩ = some (.int .i64 ob) := S.cmd.cell 2
  have y3 : w2.cell? ⟨w.heap.size + 1, 3, none⟩ = some (.int .i64 oc) := S.cmd.cell 3
  have x0 : w2.cell? ⟨b, 0, none⟩ = some (.slice Ac n cc) := S.box.cell 0
  have x1 : w2.cell? ⟨b, 1, none⟩ = some (.slice (some ⟨gr, 0, none⟩) 4 dc) := S.box.cell 1
  have hva := Hps.valid_iff.1 hv
  have ham : (a : Int) < 4 := by omega
  have AR := hs.up S.bel
  have u0 : w2.cell? ⟨w.heap.size, 0, none⟩ = some (.slice A n c) := S.arg.cell 0
  have u1 : w2.cell? ⟨w.heap.size, 1, none⟩ = some (.slice R 4 d) := S.arg.cell 1
  obtain ⟨ga, oa, xa, e1, hga, hxa, da⟩ := AR.roots.at_ (k := a) (by omega)
  obtain ⟨g2, o2, x, e2, hg2, hx, d1⟩ := AR.roots.at_ (k := ob) (by omega)
  subst e1
  injection e2 with e2
  injection e2 with e2 e3
  subst e2 e3
  have hbm : (ob : Int) < 4 := by omega
  have ex : xa = (k : Int) := by rw [← hk]; simp [Hps.rootAt, hxa]
  subst ex
  have hkl := (List.getElem?_eq_some_iff.1 hcl).1
  obtain ⟨gc, v, e4, hgc1, hgc2, hrv, hov, _, _, d2, _⟩ := S.own.cell_at hcl
  subst e4
  obtain ⟨Av, cv, rfl, fv⟩ := hov.form
  obtain ⟨gv, rfl, hgv1, hgv2⟩ := fv (by omega)
  obtain ⟨m', hm'⟩ : ∃ m', cl.r.length = m' := ⟨_, rfl⟩
  rw [hm'] at d2 hrv hov
  have hkn : (k : Int) < n := by omega
  have hom : (oc : Int) < m' := by omega
  have HX := Lib.hid hx
  have HC := Lib.hid hcl
  have HK := Lib.hid hk
  have HV := Lib.hid hrv
  have HM := Lib.hid hm'
  have SS := Lib.hid S
  clear hx hxa S AR hva hcl hk hoc hkl hrv hov hm' fv
  go_wp2_with fail
  go_still_tail 19, (by kernel_rfl)
  change wpList _ _ _ _ _ w2.drew
  have S4 := SS.out.drew
  generalize w2.drew = w4 at S4 ⊢
  obtain ⟨_, _, e5, _, _, hv5, hov5, _⟩ := S4.own.cell_at HC.out
  rw [HV.out] at hv5
  injection hv5 with hv5
  subst hv5
  obtain ⟨xo, hxo, cr⟩ := hov5.cell_at (j := oc) (by omega)
  have fz : w4.frozen? ⟨gv, oc, none⟩ = false := hov5.frozen HM.out oc
  have S1 := S4.ref1 (i := oc) HC.out HV.out HM.out x
  have hx := HX.out
  have hcl := HC.out
  have hk := HK.out
  have r0 : (w4.setCell ⟨gv, oc, none⟩ (.int .i64 x)).cell? ⟨b, 0, none⟩ = some (.slice (some ⟨gc, 0, none⟩) n cc) := S1.box.cell 0
  have r1 : (w4.setCell ⟨gv, oc, none⟩ (.int .i64 x)).cell? ⟨b, 1, none⟩ = some (.slice (some ⟨gr, 0, none⟩) 4 dc) := S1.box.cell 1
  have r2 : (w4.setCell ⟨gv, oc, none⟩ (.int .i64 x)).frozen? ⟨w.heap.size + 1 + 1, 0, none⟩ = false := S1.res.frozen 0
  have r3 : (w4.setCell ⟨gv, oc, none⟩ (.int .i64 x)).frozen? ⟨w.heap.size + 1 + 1, 1, none⟩ = false := S1.res.frozen 1
  have r4 : (w4.setCell ⟨gv, oc, none⟩ (.int .i64 x)).cell? ⟨w.heap.size + 1 + 1, 0, none⟩ = some (.slice none 0 0) := S1.res.cell 0
  have r5 : (w4.setCell ⟨gv, oc, none⟩ (.int .i64 x)).cell? ⟨w.heap.size + 1 + 1, 1, none⟩ = some (.slice none 0 0) := S1.res.cell 1
  have r6 : (((w4.setCell ⟨gv, oc, none⟩ (.int .i64 x)).setCell ⟨w.heap.size + 1 + 1, 0, none⟩ (.slice (some ⟨gc, 0, none⟩) n cc)).setCell ⟨w.heap.size + 1 + 1, 1, none⟩ (.slice (some ⟨gr, 0, none⟩) 4 dc)).cell? ⟨w.heap.size + 1 + 1, 0, none⟩ = some (.slice (some ⟨gc, 0, none⟩) n cc) := ((S1.res.put 0 (.slice (some ⟨gc, 0, none⟩) n cc)).put 1 (.slice (some ⟨gr, 0, none⟩) 4 dc)).cell 0
  have r7 : (((w4.setCell ⟨gv, oc, none⟩ (.int .i64 x)).setCell ⟨w.heap.size + 1 + 1, 0, none⟩ (.slice (some ⟨gc, 0, none⟩) n cc)).setCell ⟨w.heap.size + 1 + 1, 1, none⟩ (.slice (some ⟨gr, 0, none⟩) 4 dc)).cell? ⟨w.heap.size + 1 + 1, 1, none⟩ = some (.slice (some ⟨gr, 0, none⟩) 4 dc) := ((S1.res.put 0 (.slice (some ⟨gc, 0, none⟩) n cc)).put 1 (.slice (some ⟨gr, 0, none⟩) 4 dc)).cell 1
  have D : Hid (OwnH (((w4.setCell ⟨gv, oc, none⟩ (.int .i64 x)).setCell ⟨w.heap.size + 1 + 1, 0, none⟩ (.slice (some ⟨gc, 0, none⟩) n cc)).setCell ⟨w.heap.size + 1 + 1, 1, none⟩ (.slice (some ⟨gr, 0, none⟩) 4 dc)) w.heap.size (.slice (some ⟨gc, 0, none⟩) n cc) (.slice (some ⟨gr, 0, none⟩) 4 dc) _ ∧ Below w.heap.size w (((w4.setCell ⟨gv, oc, none⟩ (.int .i64 x)).setCell ⟨w.heap.size + 1 + 1, 0, none⟩ (.slice (some ⟨gc, 0, none⟩) n cc)).setCell ⟨w.heap.size + 1 + 1, 1, none⟩ (.slice (some ⟨gr, 0, none⟩) 4 dc))) := Lib.hid S1.done
  have HF := Lib.hid (show Hps.doH h ⟨3, a, ob, oc⟩ p = ⟨h.cs.set k ⟨cl.u, cl.d, cl.r.set oc x⟩, h.rt⟩ by simp [Hps.doH, Hps.setRef, hk, hcl]; simp [Hps.rootAt, hx])
  clear S1
  clear S4 hxo hx hcl hk e5 hov5
  go_wp2_with fail
  exact bodyPost_ret (v := .agg #[.slice (some ⟨gc, 0, none⟩) n cc, .slice (some ⟨gr, 0, none⟩) 4 dc]) (by simp [results, Tryd.results68, go_sem, *]) rfl ⟨_, _, rfl, by rw [HF.out]; exact D.out.1, D.out.2⟩
set_option maxHeartbeats 4000000 in
theorem l8Do_data (A R : Option Addr) (n c m d : Nat) (h : Hp) (a : Nat) (ob : Int) (oc : Int) (p : Nat) (w : World) (hs : HS w w.heap.size A n R m h) (hv : Hps.validH h = true) (ha : a < 4) (k : Nat) (cl : Cl) (hk : Hps.rootAt h a = k) (hcl : h.cs[k]? = some cl) :
    Calls Tryd.prog 68 #[heapV A n c R m d, cmV ⟨6, a, ob, oc⟩, .int .i64 p] w (GaveH w (Hps.doH h ⟨6, a, ob, oc⟩ p)) := by
  have hlc := hs.cells.1
  have hlr := hs.roots.1
  have h40 := (Hps.valid_iff.1 hv).2.1
  obtain rfl : m = 4 := by rw [← hlr]; exact (Hps.valid_iff.1 hv).2.2.1
  have HL := Lib.hid hlr
  have h3 : ∀ cl ∈ h.cs, cl.r.length ≤ 1000000 := fun cl hcl => by have := (Hps.okCell_iff.1 ((Hps.valid_iff.1 hv).1 cl hcl)).2.2.1; omega
  have b3 : Below w.heap.size w (((w.alloc (.cells #[.slice A n c, .slice R 4 d] 26)).alloc (.cells #[.int .i64 6, .int .i64 a, .int .i64 ob, .int .i64 oc] 36)).alloc (.cells #[.slice none 0 0, .slice none 0 0] 26)) := (((Below.refl w.heap.size w).alloc (Nat.le_refl _) _).alloc (by simp) _).alloc (by simp; omega) _
  have s3 := hs.up b3
  have q0 := ((Rw.new w 26 #[.slice A n c, .slice R 4 d]).alloc (.cells #[.int .i64 6, .int .i64 a, .int .i64 ob, .int .i64 oc] 36)).alloc (.cells #[.slice none 0 0, .slice none 0 0] 26)
  have q1 := (Rw.new (w.alloc (.cells #[.slice A n c, .slice R 4 d] 26)) 36 #[.int .i64 6, .int .i64 a, .int .i64 ob, .int .i64 oc]).alloc (.cells #[.slice none 0 0, .slice none 0 0] 26)
  have q2 := Rw.new ((w.alloc (.cells #[.slice A n c, .slice R 4 d] 26)).alloc (.cells #[.int .i64 6, .int .i64 a, .int .i64 ob, .int .i64 oc] 36)) 26 #[.slice none 0 0, .slice none 0 0]
  simp only [World.size_alloc, Nat.add_assoc, Nat.reduceAdd] at q1 q2
  clear hlr
  go_enter Tryd.func68, Tryd.ntmps68
  go_wp2_with fail
  refine (l7Copy_any _ _ _ _ _ _ h _ s3 (by omega) (by omega) h3).mono ?_
  rintro e w1 ⟨vc, vr, rfl, ⟨rvs, own⟩, b1⟩
  replace q0 := q0.keep b1 q0.lt
  replace q1 := q1.keep b1 q1.lt
  replace q2 := q2.keep b1 q2.lt
  replace b3 := b3.trans (b1.mono b3.size)
  simp only [World.size_alloc, Nat.add_assoc, Nat.reduceAdd] at own b1
  have hsz : w.heap.size + 3 ≤ w1.heap.size := by have := b1.size; simp at this; omega
  obtain ⟨Ac, cc, Rc, dc, rfl, rfl, hcc, hdc, fA, fR⟩ := own.form
  rw [hlc] at own fA hcc ⊢
  rw [HL.out] at own fR hdc ⊢
  obtain ⟨gr, rfl, hgr1, hgr2⟩ := fR (by omega)
  have S : DoSt w (w1.alloc (.cells #[.slice Ac n cc, .slice (some ⟨gr, 0, none⟩) 4 dc] 26)) w1.heap.size #[.slice A n c, .slice R 4 d] #[.int .i64 6, .int .i64 a, .int .i64 ob, .int .i64 oc] #[.slice none 0 0, .slice none 0 0] (.slice Ac n cc) (.slice (some ⟨gr, 0, none⟩) 4 dc) rvs h :=
    ⟨own.below ((Below.refl w1.heap.size w1).alloc (Nat.le_refl _) _) (Nat.le_refl _), own.apart_new (Nat.le_refl _), Rw.new w1 _ _, q0.alloc _, q1.alloc _, q2.alloc _, b3.alloc b3.size _, hsz⟩
  clear b1 s3 h3 fR own q0 q1 q2 b3
  go_upto_region 2 with fail
  generalize w1.alloc (.cells #[.slice Ac n cc, .slice (some ⟨gr, 0, none⟩) 4 dc] 26) = w2 at S ⊢
  have hb := S.lo
  generalize w1.heap.size = b at S hb hgr2 fA ⊢
  clear hsz w1
  have y0 : w2.cell? ⟨w.heap.size + 1, 0, none⟩ = some (.int .i64 6) := S.cmd.cell 0
  have y1 : w2.cell? ⟨w.heap.size + 1, 1, none⟩ = some (.int .i64 a) := S.cmd.cell 1
  have y2 : w2.cell? ⟨w.heap.size + 1, 2, none⟩ = some (.int .i64 ob) := S.cmd.cell 2
  have y3 : w2.cell? ⟨w.heap.size + 1, 3, none⟩ = some (.int .i64 oc) := S.cmd.cell 3
  have x0 : w2.cell? ⟨b, 0, none⟩ = some (.slice Ac n cc) := S.box.cell 0
  have x1 : w2.cell? ⟨b, 1, none⟩ = some (.slice (some ⟨gr, 0, none⟩) 4 dc) := S.box.cell 1
  have hva := Hps.valid_iff.1 hv
  have ham : (a : Int) < 4 := by omega
  have AR := hs.up S.bel
  have u0 : w2.cell? ⟨w.heap.size, 0, none⟩ = some (.slice A n c) := S.arg.cell 0
  have u1 : w2.cell? ⟨w.heap.size, 1, none⟩ = some (.slice R 4 d) := S.arg.cell 1
  obtain ⟨ga, oa, xa, e1, hga, hxa, da⟩ := AR.roots.at_ (k := a) (by omega)
  subst e1
  have ex : xa = (k : Int) := by rw [← hk]; simp [Hps.rootAt, hxa]
  subst ex
  have hkl := (List.getElem?_eq_some_iff.1 hcl).1
  obtain ⟨gc, v, e4, hgc1, hgc2, _⟩ := S.own.cell_at hcl
  subst e4
  have hkn : (k : Int) < n := by omega
  have HC := Lib.hid hcl
  have HK := Lib.hid hk
  have SS := Lib.hid S
  clear hxa S AR hva hcl hk hkl
  go_wp2_with fail
  go_still_tail 10, (by kernel_rfl)
  change wpList _ _ _ _ _ w2.drew
  have S4 := SS.out.drew
  generalize w2.drew = w4 at S4 ⊢
  obtain ⟨_, _, e5, _, _, _, _, _, cr, _, fz⟩ := S4.own.cell_at HC.out
  injection e5 with e5
  injection e5 with e5
  subst e5
  have fz := fz (k * 3 + 1)
  have S1 := S4.data hlc HC.out ob
  have hcl := HC.out
  have hk := HK.out
  have r0 : (w4.setCell ⟨gc, k * 3 + 1, none⟩ (.int .i64 ob)).cell? ⟨b, 0, none⟩ = some (.slice (some ⟨gc, 0, none⟩) n cc) := S1.box.cell 0
  have r1 : (w4.setCell ⟨gc, k * 3 + 1, none⟩ (.int .i64 ob)).cell? ⟨b, 1, none⟩ = some (.slice (some ⟨gr, 0, none⟩) 4 dc) := S1.box.cell 1
  have r2 : (w4.setCell ⟨gc, k * 3 + 1, none⟩ (.int .i64 ob)).frozen? ⟨w.heap.size + 1 + 1, 0, none⟩ = false := S1.res.frozen 0
  have r3 : (w4.setCell ⟨gc, k * 3 + 1, none⟩ (.int .i64 ob)).frozen? ⟨w.heap.size + 1 + 1, 1, none⟩ = false := S1.res.frozen 1
  have r4 : (w4.setCell ⟨gc, k * 3 + 1, none⟩ (.int .i64 ob)).cell? ⟨w.heap.size + 1 + 1, 0, none⟩ = some (.slice none 0 0) := S1.res.cell 0
  have r5 : (w4.setCell ⟨gc, k * 3 + 1, none⟩ (.int .i64 ob)).cell? ⟨w.heap.size + 1 + 1, 1, none⟩ = some (.slice none 0 0) := S1.res.cell 1
  have r6 : (((w4.setCell ⟨gc, k * 3 + 1, none⟩ (.int .i64 ob)).setCell ⟨w.heap.size + 1 + 1, 0, none⟩ (.slice (some ⟨gc, 0, none⟩) n cc)).setCell ⟨w.heap.size + 1 + 1, 1, none⟩ (.slice (some ⟨gr, 0, none⟩) 4 dc)).cell? ⟨w.heap.size + 1 + 1, 0, none⟩ = some (.slice (some ⟨gc, 0, none⟩) n cc) := ((S1.res.put 0 (.slice (some ⟨gc, 0, none⟩) n cc)).put 1 (.slice (some ⟨gr, 0, none⟩) 4 dc)).cell 0
  have r7 : (((w4.setCell ⟨gc, k * 3 + 1, none⟩ (.int .i64 ob)).setCell ⟨w.heap.size + 1 + 1, 0, none⟩ (.slice (some ⟨gc, 0, none⟩) n cc)).setCell ⟨w.heap.size + 1 + 1, 1, none⟩ (.slice (some ⟨gr, 0, none⟩) 4 dc)).cell? ⟨w.heap.size + 1 + 1, 1, none⟩ = some (.slice (some ⟨gr, 0, none⟩) 4 dc) := ((S1.res.put 0 (.slice (some ⟨gc, 0, none⟩) n cc)).put 1 (.slice (some ⟨gr, 0, none⟩) 4 dc)).cell 1
  have D : Hid (OwnH (((w4.setCell ⟨gc, k * 3 + 1, none⟩ (.int .i64 ob)).setCell ⟨w.heap.size + 1 + 1, 0, none⟩ (.slice (some ⟨gc, 0, none⟩) n cc)).setCell ⟨w.heap.size + 1 + 1, 1, none⟩ (.slice (some ⟨gr, 0, none⟩) 4 dc)) w.heap.size (.slice (some ⟨gc, 0, none⟩) n cc) (.slice (some ⟨gr, 0, none⟩) 4 dc) _ ∧ Below w.heap.size w (((w4.setCell ⟨gc, k * 3 + 1, none⟩ (.int .i64 ob)).setCell ⟨w.heap.size + 1 + 1, 0, none⟩ (.slice (some ⟨gc, 0, none⟩) n cc)).setCell ⟨w.heap.size + 1 + 1, 1, none⟩ (.slice (some ⟨gr, 0, none⟩) 4 dc))) := Lib.hid S1.done
  have HF := Lib.hid (show Hps.doH h ⟨6, a, ob, oc⟩ p = ⟨h.cs.set k ⟨cl.u, ob, cl.r⟩, h.rt⟩ by simp [Hps.doH, Hps.setDat, hk, hcl])
  clear S1
  clear S4 hcl hk
  go_wp2_with fail
  exact bodyPost_ret (v := .agg #[.slice (some ⟨gc, 0, none⟩) n cc, .slice (some ⟨gr, 0, none⟩) 4 dc]) (by simp [results, Tryd.results68, go_sem, *]) rfl ⟨_, _, rfl, by rw [HF.out]; exact D.out.1, D.out.2⟩
theorem Sep8 {w1 w2 : World} {b1 : Nat} {vc vr v8 : Value} {rvs : List Value} {h : Hp} {xs : List Int} (S : OwnHx w1 b1 vc vr rvs h) (o : OwnI w2 w1.heap.size v8 xs) : ∀ v ∈ vc :: vr :: rvs, v8.ownBlock = none ∨ v8.ownBlock ≠ v.ownBlock := fun v hv => by
  cases e : v8.ownBlock with
  | none => exact .inl rfl
  | some k =>
    right
    intro e'
    have h1 := (World.ownsRow.lt o k e).1
    have h2 := (S.blocks hv e'.symm).2
    omega
set_option maxHeartbeats 8000000 in
theorem l8Do_new (A R : Option Addr) (n c m d : Nat) (h : Hp) (a : Nat) (ob : Nat) (oc : Int) (p : Nat) (w : World) (hs : HS w w.heap.size A n R m h) (hv : Hps.validH h = true) (ha : a < 4) (hb3 : ob ≤ 3) (hp : p ≤ n) :
    Calls Tryd.prog 68 #[heapV A n c R m d, cmV ⟨1, a, ob, oc⟩, .int .i64 p] w (GaveH w (Hps.doH h ⟨1, a, ob, oc⟩ p)) := by
  have hlc := hs.cells.1
  have hlr := hs.roots.1
  have h40 := (Hps.valid_iff.1 hv).2.1
  obtain rfl : m = 4 := by rw [← hlr]; exact (Hps.valid_iff.1 hv).2.2.1
  have HL := Lib.hid hlr
  have h3 : ∀ cl ∈ h.cs, cl.r.length ≤ 1000000 := fun cl hcl => by have := (Hps.okCell_iff.1 ((Hps.valid_iff.1 hv).1 cl hcl)).2.2.1; omega
  have b3 : Below w.heap.size w (((w.alloc (.cells #[.slice A n c, .slice R 4 d] 26)).alloc (.cells #[.int .i64 1, .int .i64 a, .int .i64 ob, .int .i64 oc] 36)).alloc (.cells #[.slice none 0 0, .slice none 0 0] 26)) := (((Below.refl w.heap.size w).alloc (Nat.le_refl _) _).alloc (by simp) _).alloc (by simp; omega) _
  have s3 := hs.up b3
  have q0 := ((Rw.new w 26 #[.slice A n c, .slice R 4 d]).alloc (.cells #[.int .i64 1, .int .i64 a, .int .i64 ob, .int .i64 oc] 36)).alloc (.cells #[.slice none 0 0, .slice none 0 0] 26)
  have q1 := (Rw.new (w.alloc (.cells #[.slice A n c, .slice R 4 d] 26)) 36 #[.int .i64 1, .int .i64 a, .int .i64 ob, .int .i64 oc]).alloc (.cells #[.slice none 0 0, .slice none 0 0] 26)
  have q2 := Rw.new ((w.alloc (.cells #[.slice A n c, .slice R 4 d] 26)).alloc (.cells #[.int .i64 1, .int .i64 a, .int .i64 ob, .int .i64 oc] 36)) 26 #[.slice none 0 0, .slice none 0 0]
  simp only [World.size_alloc, Nat.add_assoc, Nat.reduceAdd] at q1 q2
  clear hlr
  go_enter Tryd.func68, Tryd.ntmps68
  go_wp2_with fail
  refine (l7Copy_any _ _ _ _ _ _ h _ s3 (by omega) (by omega) h3).mono ?_
  rintro e w1 ⟨vc, vr, rfl, ⟨rvs, own⟩, b1⟩
  replace q0 := q0.keep b1 q0.lt
  replace q1 := q1.keep b1 q1.lt
  replace q2 := q2.keep b1 q2.lt
  replace b3 := b3.trans (b1.mono b3.size)
  simp only [World.size_alloc, Nat.add_assoc, Nat.reduceAdd] at own b1
  have hsz : w.heap.size + 3 ≤ w1.heap.size := by have := b1.size; simp at this; omega
  obtain ⟨Ac, cc, Rc, dc, rfl, rfl, hcc, hdc, fA, fR⟩ := own.form
  rw [hlc] at own fA hcc ⊢
  rw [HL.out] at own fR hdc ⊢
  obtain ⟨gr, rfl, hgr1, hgr2⟩ := fR (by omega)
  have S : DoSt w (w1.alloc (.cells #[.slice Ac n cc, .slice (some ⟨gr, 0, none⟩) 4 dc] 26)) w1.heap.size #[.slice A n c, .slice R 4 d] #[.int .i64 1, .int .i64 a, .int .i64 ob, .int .i64 oc] #[.slice none 0 0, .slice none 0 0] (.slice Ac n cc) (.slice (some ⟨gr, 0, none⟩) 4 dc) rvs h :=
    ⟨own.below ((Below.refl w1.heap.size w1).alloc (Nat.le_refl _) _) (Nat.le_refl _), own.apart_new (Nat.le_refl _), Rw.new w1 _ _, q0.alloc _, q1.alloc _, q2.alloc _, b3.alloc b3.size _, hsz⟩
  clear b1 s3 h3 fR own q0 q1 q2 b3
  go_upto_region 2 with fail
  generalize w1.alloc (.cells #[.slice Ac n cc, .slice (some ⟨gr, 0, none⟩) 4 dc] 26) = w2 at S ⊢
  have hb := S.lo
  generalize w1.heap.size = b at S hb hgr2 fA ⊢
  clear hsz w1
  have y0 : w2.cell? ⟨w.heap.size + 1, 0, none⟩ = some (.int .i64 1) := S.cmd.cell 0
  have y1 : w2.cell? ⟨w.heap.size + 1, 1, none⟩ = some (.int .i64 a) := S.cmd.cell 1
  have y2 : w2.cell? ⟨w.heap.size + 1, 2, none⟩ = some (.int .i64 ob) := S.cmd.cell 2
  have y3 : w2.cell? ⟨w.heap.size + 1, 3, none⟩ = some (.int .i64 oc) := S.cmd.cell 3
  have x0 : w2.cell? ⟨b, 0, none⟩ = some (.slice Ac n cc) := S.box.cell 0
  have x1 : w2.cell? ⟨b, 1, none⟩ = some (.slice (some ⟨gr, 0, none⟩) 4 dc) := S.box.cell 1
  have hva := Hps.valid_iff.1 hv
  have hbl := S.box.lt
  have T0 : Rw (w2.alloc (.cells #[.bool true, .int .i64 oc, .slice none 0 0] 43)) w2.heap.size 43 #[.bool true, .int .i64 oc, .slice none 0 0] := Rw.new _ _ _
  have SS := Lib.hid S
  have B0 : Below w2.heap.size w2 (w2.alloc (.cells #[.bool true, .int .i64 oc, .slice none 0 0] 43)) := (Below.refl _ _).alloc (Nat.le_refl _) _
  clear S hva
  go_wp2_with fail
  go_loopw [9] (fun i wr => ∃ (k : Nat) (v8 : Value), k ≤ ob ∧ i = .int .i64 k ∧ OwnI wr (w2.heap.size + 1) v8 (List.replicate k (-1)) ∧ Rw wr w2.heap.size 43 #[.bool true, .int .i64 oc, v8] ∧ Below w2.heap.size w2 wr ∧ w2.heap.size + 1 ≤ wr.heap.size) (fun i _ => ob - (intOf i).toNat)
  case atStart => exact ⟨0, .slice none 0 0, by omega, rfl, World.ownsRow_nil _ _ _ _, T0, B0, by simp⟩
  case round =>
    clear T0 B0
    obtain ⟨k, v8, hk, rfl, ho, hx, bb, hsz⟩ := hrel
    have z2 : wr.cell? ⟨w.heap.size + 1, 2, none⟩ = some (.int .i64 ob) := (SS.out.up bb).cmd.cell 2
    have x2 : wr.cell? ⟨w2.heap.size, 2, none⟩ = some v8 := hx.cell 2
    obtain ⟨A8, c8, e, hA⟩ := ho.form
    have hlen : (List.replicate k (-1 : Int)).length = k := by simp
    rw [hlen] at e hA
    subst e
    by_cases hlt : k < ob
    · have hlt' : (k : Int) < ob := by omega
      have ow := World.ownsRow.alloc ho (.cells #[.int .i64 (-1)] 3)
      have rr : IS (wr.alloc (.cells #[.int .i64 (-1)] 3)) (wr.alloc (.cells #[.int .i64 (-1)] 3)).heap.size (some ⟨wr.heap.size, 0, none⟩) 1 [-1] := (own_oneI wr (-1) 0 (Nat.zero_le _)).reads
      have HSx := Lib.hid (show List.replicate k (-1 : Int) ++ [-1] = List.replicate (k + 1) (-1) by rw [List.replicate_succ'])
      clear hlen hp y0 y1 y2 y3 x0 x1
      go_wp2_with (at_builtin; refine wpList_appendI rfl (.tmp 26) (.tmp 27) rfl (w2.heap.size + 1) _ (List.replicate k (-1)) rfl ow (some ⟨wr.heap.size, 0, none⟩) 1 1 _ [-1] rfl rr (by simp; omega) (by simp; omega) ?_; intro v5 w5 o5 g5 s5; have hx5 := Rw.far (hx.alloc (.cells #[.int .i64 (-1)] 3)) g5 (row_ne ho (by omega)); have x0 := hx5.cell 2; have x3 := hx5.frozen 2; obtain ⟨A5, c5, e5, f5⟩ := o5.form; subst e5; clear f5)
      have o6 : OwnI w5 (w2.heap.size + 1) (.slice A5 (k + 1) c5) (List.replicate (k + 1) (-1)) := by
        have := OwnI.cast HSx.out o5
        simpa using this
      have b5 : Below w2.heap.size w2 w5 := (bb.alloc bb.size _).grown g5 (by simp; omega) (fun kk hk => by have := (World.ownsRow.lt ho kk hk).1; omega)
      have s5' : w2.heap.size + 1 ≤ w5.heap.size := by have := g5.size; simp at this; omega
      go_roundw
      case rel =>
        refine ⟨k + 1, .slice A5 (k + 1) c5, by omega, by go_num, ?_, hx5.put 2 _, b5.setCell (p := ⟨w2.heap.size, 2, none⟩) (by simp) _, by simpa using s5'⟩
        exact o6.far (only_put (World.grownBy.refl _ _) 2 _) (.inr fun e => row_ne o6 (by omega) e.symm)
      case measure => simp [intOf]; omega
    · obtain rfl : k = ob := by omega
      have S := SS.out.up bb
      have z0 : wr.cell? ⟨b, 0, none⟩ = some (.slice Ac n cc) := S.box.cell 0
      have t0 : wr.cell? ⟨w2.heap.size, 0, none⟩ = some (.bool true) := hx.cell 0
      have t1 : wr.cell? ⟨w2.heap.size, 1, none⟩ = some (.int .i64 oc) := hx.cell 1
      have ap8 := Sep8 SS.out.own (ho.base (base' := w2.heap.size) (by omega))
      have h8b : (Value.slice A8 k c8).ownBlock ≠ some b := fun e => by
        have := (World.ownsRow.lt ho b e).1
        omega
      have o8 : OwnI wr (w.heap.size + 3) (.slice A8 k c8) (List.replicate k (-1)) := ho.base (by omega)
      clear hlen hA y0 y1 y2 y3 x0 x1
      by_cases hpn : p = n
      · subst hpn
        have own' := World.ownsRow.alloc S.own.row (.cells #[.bool true, .int .i64 oc, .slice A8 k c8] 43)
        rw [hlc] at own'
        have rr := Rw.new wr 43 #[.bool true, .int .i64 oc, .slice A8 k c8]
        have B1 : Below wr.heap.size wr (wr.alloc (.cells #[.bool true, .int .i64 oc, .slice A8 k c8] 43)) := (Below.refl _ _).alloc (Nat.le_refl _) _
        have SB := S.up B1
        have o8' := o8.below B1 (Nat.le_refl _)
        have hlo := S.lo
        have hbsz := S.bel.size
        have hsz3 : w.heap.size + 3 ≤ wr.heap.size := by have := S.box.lt; omega
        have GO := Lib.hid (fun v9 w9 (g9 : (wr.alloc (.cells #[.bool true, .int .i64 oc, .slice A8 k c8] 43)).grownBy w9 (Value.slice Ac p cc).ownBlock) o9 s9 => SB.snoc (cl := ⟨true, oc, List.replicate k (-1)⟩) (v9 := v9) (w1 := w9) g9 (by rw [hlc]; exact o9) s9 o8' ap8 h8b)
        have FB := Lib.hid (fun w9 (g9 : (wr.alloc (.cells #[.bool true, .int .i64 oc, .slice A8 k c8] 43)).grownBy w9 (Value.slice Ac p cc).ownBlock) => Rw.far SB.box g9 (fun e => by
          rcases SB.apart _ (List.mem_cons_self) with e' | e'
          · rw [e'] at e; cases e
          · exact e' e.symm))
        clear S SB o8 o8' ho ap8 B1 hx bb
        go_upto_region 12 with (at_builtin; refine wpList_appendC rfl (.tmp 36) (.tmp 38) rfl (w.heap.size + 3) _ p (flatC h.cs rvs) rfl own' wr.heap.size true oc A8 k c8 rfl rr (by omega) (by simp; omega) ?_; intro v9 w9 A9 c9 e9 o9 g9 s9; subst e9; have SN := GO.out _ w9 g9 o9 s9; have z9 := (FB.out w9 g9).cell 0; have f9 := (FB.out w9 g9).frozen 0; clear o9 g9 s9)
        generalize w9.setCell ⟨b, 0, none⟩ (.slice A9 (p + 1) c9) = w5 at SN ⊢
        clear z9 f9 GO FB own' rr z0 t0 t1
        have v1 : w5.cell? ⟨b, 1, none⟩ = some (.slice (some ⟨gr, 0, none⟩) 4 dc) := SN.box.cell 1
        have v2 : w5.cell? ⟨w.heap.size + 1, 1, none⟩ = some (.int .i64 a) := SN.cmd.cell 1
        obtain ⟨xo, hxo, cr⟩ := SN.own.roots.cell_at (j := a) (by omega)
        have fz : w5.frozen? ⟨gr, a, none⟩ = false := SN.own.roots.frozen HL.out a
        have ham : (a : Int) < 4 := by omega
        have S1 := SN.root (i := a) HL.out p
        have r0 : (w5.setCell ⟨gr, a, none⟩ (.int .i64 p)).cell? ⟨b, 0, none⟩ = some (.slice A9 (p + 1) c9) := S1.box.cell 0
        have r1 : (w5.setCell ⟨gr, a, none⟩ (.int .i64 p)).cell? ⟨b, 1, none⟩ = some (.slice (some ⟨gr, 0, none⟩) 4 dc) := S1.box.cell 1
        have r2 : (w5.setCell ⟨gr, a, none⟩ (.int .i64 p)).frozen? ⟨w.heap.size + 1 + 1, 0, none⟩ = false := S1.res.frozen 0
        have r3 : (w5.setCell ⟨gr, a, none⟩ (.int .i64 p)).frozen? ⟨w.heap.size + 1 + 1, 1, none⟩ = false := S1.res.frozen 1
        have r4 : (w5.setCell ⟨gr, a, none⟩ (.int .i64 p)).cell? ⟨w.heap.size + 1 + 1, 0, none⟩ = some (.slice none 0 0) := S1.res.cell 0
        have r5 : (w5.setCell ⟨gr, a, none⟩ (.int .i64 p)).cell? ⟨w.heap.size + 1 + 1, 1, none⟩ = some (.slice none 0 0) := S1.res.cell 1
        have r6 : (((w5.setCell ⟨gr, a, none⟩ (.int .i64 p)).setCell ⟨w.heap.size + 1 + 1, 0, none⟩ (.slice A9 (p + 1) c9)).setCell ⟨w.heap.size + 1 + 1, 1, none⟩ (.slice (some ⟨gr, 0, none⟩) 4 dc)).cell? ⟨w.heap.size + 1 + 1, 0, none⟩ = some (.slice A9 (p + 1) c9) := ((S1.res.put 0 (.slice A9 (p + 1) c9)).put 1 (.slice (some ⟨gr, 0, none⟩) 4 dc)).cell 0
        have r7 : (((w5.setCell ⟨gr, a, none⟩ (.int .i64 p)).setCell ⟨w.heap.size + 1 + 1, 0, none⟩ (.slice A9 (p + 1) c9)).setCell ⟨w.heap.size + 1 + 1, 1, none⟩ (.slice (some ⟨gr, 0, none⟩) 4 dc)).cell? ⟨w.heap.size + 1 + 1, 1, none⟩ = some (.slice (some ⟨gr, 0, none⟩) 4 dc) := ((S1.res.put 0 (.slice A9 (p + 1) c9)).put 1 (.slice (some ⟨gr, 0, none⟩) 4 dc)).cell 1
        have D : Hid (OwnH (((w5.setCell ⟨gr, a, none⟩ (.int .i64 p)).setCell ⟨w.heap.size + 1 + 1, 0, none⟩ (.slice A9 (p + 1) c9)).setCell ⟨w.heap.size + 1 + 1, 1, none⟩ (.slice (some ⟨gr, 0, none⟩) 4 dc)) w.heap.size (.slice A9 (p + 1) c9) (.slice (some ⟨gr, 0, none⟩) 4 dc) _ ∧ Below w.heap.size w (((w5.setCell ⟨gr, a, none⟩ (.int .i64 p)).setCell ⟨w.heap.size + 1 + 1, 0, none⟩ (.slice A9 (p + 1) c9)).setCell ⟨w.heap.size + 1 + 1, 1, none⟩ (.slice (some ⟨gr, 0, none⟩) 4 dc))) := Lib.hid S1.done
        have HF := Lib.hid (show Hps.doH h ⟨1, a, k, oc⟩ p = ⟨h.cs ++ [⟨true, oc, List.replicate k (-1)⟩], h.rt.set a p⟩ by simp [Hps.doH, Hps.putCl, Hps.newCl, hlc]; try omega)
        clear S1
        clear SN hxo
        go_wp2_with fail
        exact bodyPost_ret (v := .agg #[.slice A9 (p + 1) c9, .slice (some ⟨gr, 0, none⟩) 4 dc]) (by simp [results, Tryd.results68, go_sem, *]) rfl ⟨_, _, rfl, by rw [HF.out]; exact D.out.1, D.out.2⟩
      · obtain ⟨old, hold⟩ : ∃ old, h.cs[p]? = some old := ⟨_, List.getElem?_eq_getElem (show p < h.cs.length by omega)⟩
        obtain ⟨gc, v, e4, hgc1, hgc2, _, _, c0, c1, c2, fzc⟩ := S.own.cell_at hold
        subst e4
        have f0 := fzc (p * 3)
        have f1 := fzc (p * 3 + 1)
        have f2 := fzc (p * 3 + 2)
        have SN := S.cellN hlc (cl := ⟨true, oc, List.replicate k (-1)⟩) hold o8 ap8 (.inr h8b)
        have hpn' : (p : Int) < n := by omega
        have hpne : ¬ (p : Int) = n := by omega
        have hpb : ((p : Int) == n) = false := by rw [beq_eq_false_iff_ne]; exact hpne
        have hplt := (List.getElem?_eq_some_iff.1 hold).1
        clear S o8 ho ap8 hold fzc hx bb
        go_upto_region 12 with fail
        generalize ((wr.setCell ⟨gc, p * 3, none⟩ (.bool true)).setCell ⟨gc, p * 3 + 1, none⟩ (.int .i64 oc)).setCell ⟨gc, p * 3 + 2, none⟩ (.slice A8 k c8) = w5 at SN ⊢
        clear c0 c1 c2 f0 f1 f2 z0 t0 t1
        have v1 : w5.cell? ⟨b, 1, none⟩ = some (.slice (some ⟨gr, 0, none⟩) 4 dc) := SN.box.cell 1
        have v2 : w5.cell? ⟨w.heap.size + 1, 1, none⟩ = some (.int .i64 a) := SN.cmd.cell 1
        obtain ⟨xo, hxo, cr⟩ := SN.own.roots.cell_at (j := a) (by omega)
        have fz : w5.frozen? ⟨gr, a, none⟩ = false := SN.own.roots.frozen HL.out a
        have ham : (a : Int) < 4 := by omega
        have S1 := SN.root (i := a) HL.out p
        have r0 : (w5.setCell ⟨gr, a, none⟩ (.int .i64 p)).cell? ⟨b, 0, none⟩ = some (.slice (some ⟨gc, 0, none⟩) n cc) := S1.box.cell 0
        have r1 : (w5.setCell ⟨gr, a, none⟩ (.int .i64 p)).cell? ⟨b, 1, none⟩ = some (.slice (some ⟨gr, 0, none⟩) 4 dc) := S1.box.cell 1
        have r2 : (w5.setCell ⟨gr, a, none⟩ (.int .i64 p)).frozen? ⟨w.heap.size + 1 + 1, 0, none⟩ = false := S1.res.frozen 0
        have r3 : (w5.setCell ⟨gr, a, none⟩ (.int .i64 p)).frozen? ⟨w.heap.size + 1 + 1, 1, none⟩ = false := S1.res.frozen 1
        have r4 : (w5.setCell ⟨gr, a, none⟩ (.int .i64 p)).cell? ⟨w.heap.size + 1 + 1, 0, none⟩ = some (.slice none 0 0) := S1.res.cell 0
        have r5 : (w5.setCell ⟨gr, a, none⟩ (.int .i64 p)).cell? ⟨w.heap.size + 1 + 1, 1, none⟩ = some (.slice none 0 0) := S1.res.cell 1
        have r6 : (((w5.setCell ⟨gr, a, none⟩ (.int .i64 p)).setCell ⟨w.heap.size + 1 + 1, 0, none⟩ (.slice (some ⟨gc, 0, none⟩) n cc)).setCell ⟨w.heap.size + 1 + 1, 1, none⟩ (.slice (some ⟨gr, 0, none⟩) 4 dc)).cell? ⟨w.heap.size + 1 + 1, 0, none⟩ = some (.slice (some ⟨gc, 0, none⟩) n cc) := ((S1.res.put 0 (.slice (some ⟨gc, 0, none⟩) n cc)).put 1 (.slice (some ⟨gr, 0, none⟩) 4 dc)).cell 0
        have r7 : (((w5.setCell ⟨gr, a, none⟩ (.int .i64 p)).setCell ⟨w.heap.size + 1 + 1, 0, none⟩ (.slice (some ⟨gc, 0, none⟩) n cc)).setCell ⟨w.heap.size + 1 + 1, 1, none⟩ (.slice (some ⟨gr, 0, none⟩) 4 dc)).cell? ⟨w.heap.size + 1 + 1, 1, none⟩ = some (.slice (some ⟨gr, 0, none⟩) 4 dc) := ((S1.res.put 0 (.slice (some ⟨gc, 0, none⟩) n cc)).put 1 (.slice (some ⟨gr, 0, none⟩) 4 dc)).cell 1
        have D : Hid (OwnH (((w5.setCell ⟨gr, a, none⟩ (.int .i64 p)).setCell ⟨w.heap.size + 1 + 1, 0, none⟩ (.slice (some ⟨gc, 0, none⟩) n cc)).setCell ⟨w.heap.size + 1 + 1, 1, none⟩ (.slice (some ⟨gr, 0, none⟩) 4 dc)) w.heap.size (.slice (some ⟨gc, 0, none⟩) n cc) (.slice (some ⟨gr, 0, none⟩) 4 dc) _ ∧ Below w.heap.size w (((w5.setCell ⟨gr, a, none⟩ (.int .i64 p)).setCell ⟨w.heap.size + 1 + 1, 0, none⟩ (.slice (some ⟨gc, 0, none⟩) n cc)).setCell ⟨w.heap.size + 1 + 1, 1, none⟩ (.slice (some ⟨gr, 0, none⟩) 4 dc))) := Lib.hid S1.done
        have HF := Lib.hid (show Hps.doH h ⟨1, a, k, oc⟩ p = ⟨h.cs.set p ⟨true, oc, List.replicate k (-1)⟩, h.rt.set a p⟩ by simp [Hps.doH, Hps.putCl, Hps.newCl, hlc]; try omega)
        clear S1
        clear SN hxo
        go_wp2_with fail
        exact bodyPost_ret (v := .agg #[.slice (some ⟨gc, 0, none⟩) n cc, .slice (some ⟨gr, 0, none⟩) 4 dc]) (by simp [results, Tryd.results68, go_sem, *]) rfl ⟨_, _, rfl, by rw [HF.out]; exact D.out.1, D.out.2⟩
theorem l8Do_any (A R : Option Addr) (n c m d : Nat) (h : Hp) (o : Cm) (p : Nat) (w : World) (hs : HS w w.heap.size A n R m h) (hc : Hps.canH h o = true) (hp : o.op = 1 → p ≤ n) :
    Calls Tryd.prog 68 #[heapV A n c R m d, cmV o, .int .i64 p] w (GaveH w (Hps.doH h o p)) := by
  obtain ⟨hv, ho⟩ := Hps.canH_parts hc
  obtain ⟨op, a, b, cc⟩ := o
  obtain ⟨ha1, ha2⟩ := Hps.okCm_a ho
  obtain ⟨a, rfl⟩ := Int.eq_ofNat_of_zero_le ha1
  have ha : a < 4 := by simp only at ha2; omega
  rcases Hps.okCm_op ho with e | e | e | e | e | e <;> simp only at e <;> subst e
  · obtain ⟨_, hb, _⟩ := (Hps.okCm_new rfl).1 ho
    simp only at hb
    obtain ⟨b, rfl⟩ := Int.eq_ofNat_of_zero_le hb.1
    exact l8Do_new A R n c m d h a b cc p w hs hv ha (by omega) (hp rfl)
  · obtain ⟨_, hb, hcc⟩ := (Hps.okCm_get (.inl rfl)).1 ho
    rw [Hps.canH_get hv ho rfl] at hc
    simp only at hb hcc hc
    obtain ⟨b, rfl⟩ := Int.eq_ofNat_of_zero_le hb.1
    obtain ⟨cc, rfl⟩ := Int.eq_ofNat_of_zero_le hcc.1
    obtain ⟨k, cl, hk, hcl, hl⟩ := Hps.placeH_iff.1 hc
    exact l8Do_get A R n c m d h a b cc p w hs hv ha (by omega) k cl hk hcl (by omega)
  · obtain ⟨_, hb, hcc⟩ := (Hps.okCm_get (.inr rfl)).1 ho
    rw [Hps.canH_set hv ho rfl] at hc
    simp only at hb hcc hc
    obtain ⟨b, rfl⟩ := Int.eq_ofNat_of_zero_le hb.1
    obtain ⟨cc, rfl⟩ := Int.eq_ofNat_of_zero_le hcc.1
    obtain ⟨k, cl, hk, hcl, hl⟩ := Hps.placeH_iff.1 hc
    exact l8Do_set A R n c m d h a b cc p w hs hv ha (by omega) k cl hk hcl (by omega)
  · obtain ⟨_, hb, _⟩ := (Hps.okCm_copy rfl).1 ho
    simp only at hb
    obtain ⟨b, rfl⟩ := Int.eq_ofNat_of_zero_le hb.1
    exact l8Do_copy A R n c m d h a b cc p w hs hv ha (by omega)
  · exact l8Do_drop A R n c m d h a b cc p w hs hv ha
  · rw [Hps.canH_data hv ho rfl] at hc
    obtain ⟨k, hk, hk2, _⟩ := Hps.okRef_nat (Hps.root_ok hv _) (of_decide_eq_true hc)
    exact l8Do_data A R n c m d h a b cc p w hs hv ha k _ hk (List.getElem?_eq_getElem hk2)
end Go.Proofs.YtfgdenmlfloloaaDoor

namespace Go.Proofs.YtfgdenmlfloloaaDoor
open Go.RowKit
set_option maxRecDepth 100000
/-- a heap of the call's own, and a bool -/
def GaveH2 (w : World) (h : Hp) (ok : Bool) (e : Ending) (w' : World) : Prop := ∃ vc vr, e = .returned (.tuple #[.agg #[vc, vr], .bool ok]) ∧ OwnH w' w.heap.size vc vr h ∧ Below w.heap.size w w'
theorem own_zeroH (w : World) (base : Nat) (_hb : base ≤ w.heap.size) : OwnH w base (.slice none 0 0) (.slice none 0 0) Hps.zeroH := by
  refine ⟨[], rfl, World.ownsRow_nil _ _ _ _, fun k c v hc => by simp [Hps.zeroH] at hc, World.ownsRow_nil _ _ _ _, ?_⟩
  simp [Sep, Value.ownBlock]
/-- a heap of the call's own goes into the box of a result -/
theorem OwnH.out {w wr : World} {base g : Nat} {vc vr : Value} {h : Hp} (ho : OwnH wr base vc vr h) (hg : g < base) (hb : Below w.heap.size w wr) (hw : w.heap.size ≤ g) :
    OwnH ((wr.setCell ⟨g, 0, none⟩ vc).setCell ⟨g, 1, none⟩ vr) w.heap.size vc vr h ∧ Below w.heap.size w ((wr.setCell ⟨g, 0, none⟩ vc).setCell ⟨g, 1, none⟩ vr) := by
  obtain ⟨rvs, own⟩ := ho
  have ap : Apart (some g) (vc :: vr :: rvs) := own.apart_below hg
  exact ⟨⟨rvs, ((own.far (put_any wr g 0 vc) ap).far (put_any _ g 1 vr) ap).base (by omega)⟩, (hb.setCell (p := ⟨g, 0, none⟩) hw vc).setCell (p := ⟨g, 1, none⟩) hw vr⟩
theorem OwnH.base {w : World} {base base' : Nat} {vc vr : Value} {h : Hp} (ho : OwnH w base vc vr h) (hb : base' ≤ base) : OwnH w base' vc vr h := by
  obtain ⟨rvs, own⟩ := ho
  exact ⟨rvs, own.base hb⟩
theorem OwnH.below {w w' : World} {base B : Nat} {vc vr : Value} {h : Hp} (ho : OwnH w base vc vr h) (hb : Below B w w') (hB : w.heap.size ≤ B) : OwnH w' base vc vr h := by
  obtain ⟨rvs, own⟩ := ho
  exact ⟨rvs, own.below hb hB⟩
theorem OwnH.form {w : World} {base : Nat} {vc vr : Value} {h : Hp} (ho : OwnH w base vc vr h) : ∃ A c R d, vc = .slice A h.cs.length c ∧ vr = .slice R h.rt.length d ∧ HS w w.heap.size A h.cs.length R h.rt.length h := by
  obtain ⟨rvs, own⟩ := ho
  obtain ⟨A, c, R, d, rfl, rfl, _⟩ := own.form
  exact ⟨A, c, R, d, rfl, rfl, own.reads⟩
theorem OwnH.slices {w : World} {base : Nat} {vc vr : Value} {h : Hp} (ho : OwnH w base vc vr h) : ∃ A n c R m d, vc = .slice A n c ∧ vr = .slice R m d := by
  obtain ⟨A, c, R, d, e1, e2, _⟩ := ho.form
  exact ⟨A, _, c, R, _, d, e1, e2⟩
namespace Hps
theorem stepH_no {h : Hp} {o : Cm} (e : validH h = false ∨ okCm o = false) : stepH h o = (zeroH, false) := by
  unfold stepH
  rcases e with e | e <;> simp [e]
theorem stepH_cannot {h : Hp} {o : Cm} (h1 : validH h = true) (h2 : okCm o = true) (h3 : canH h o = false) : stepH h o = (h, false) := by simp [stepH, h1, h2, h3]
theorem stepH_full {h : Hp} {o : Cm} (h1 : validH h = true) (h2 : okCm o = true) (h3 : o.op = 1) (h4 : h.cs.length = 40) : stepH h o = (h, false) := by simp [stepH, h1, h2, h3, h4]
theorem stepH_does {h : Hp} {o : Cm} (h1 : validH h = true) (h2 : okCm o = true) (h3 : canH h o = true) (h4 : ¬ (o.op = 1 ∧ h.cs.length = 40)) : stepH h o = (doH h o h.cs.length, true) := by
  simp [stepH, h1, h2, h3]
  intro h5 h6
  exact h4 ⟨h5, h6⟩
end Hps
end Go.Proofs.YtfgdenmlfloloaaDoor

namespace Go.Proofs.YtfgdenmlfloloaaDoor
open Go.RowKit
set_option maxRecDepth 100000
theorem row_form {w : World} {base n s : Nat} {e : TypeId} {v : Value} {xs : List Value} (h : w.ownsRow base e s v n xs) : ∃ A c, v = .slice A n c := by
  rcases h.2 with ⟨rfl, h0⟩ | ⟨g, cap, cur, rfl, _⟩
  · exact ⟨none, 0, by rw [h0]⟩
  · exact ⟨_, _, rfl⟩
set_option maxHeartbeats 4000000 in
theorem cloneHeap_any (A R : Option Addr) (n c m d : Nat) (h : Hp) (w : World) (hs : HS w w.heap.size A n R m h) (hn : n ≤ 1099511627776) (hm : m ≤ 1099511627776) (h3 : ∀ cl ∈ h.cs, cl.r.length ≤ 1000000) :
    Calls Tryd.prog 72 #[heapV A n c R m d] w (GaveH w h) := by
  have hlc := hs.cells.1
  obtain ⟨rvs, hrv, hrA⟩ := hs.cells.refs
  have B2 : Below w.heap.size w ((w.alloc (.cells #[.slice A n c, .slice R m d] 26)).alloc (.cells #[.slice none 0 0, .slice none 0 0] 26)) := ((Below.refl _ _).alloc (Nat.le_refl _) _).alloc (by simp) _
  have Q1 := (Rw.new w 26 #[.slice A n c, .slice R m d]).alloc (.cells #[.slice none 0 0, .slice none 0 0] 26)
  have Q2 := Rw.new (w.alloc (.cells #[.slice A n c, .slice R m d] 26)) 26 #[.slice none 0 0, .slice none 0 0]
  simp only [World.size_alloc] at Q2
  have H3 := Lib.hid h3
  have HLC := Lib.hid hlc
  have HRV := Lib.hid hrv
  have HRA := Lib.hid hrA
  clear h3 hlc hrv hrA
  go_enter Tryd.func72, Tryd.ntmps72
  go_upto_region 1 with fail
  generalize ((w.alloc (.cells #[.slice A n c, .slice R m d] 26)).alloc (.cells #[.slice none 0 0, .slice none 0 0] 26)) = w2 at B2 Q1 Q2 ⊢
  have hz := Q2.lt
  refine wp_region_inv (by kernel_rfl) (by kernel_rfl) (fun L ac ww => ∃ t3 t5 t6 t7 t8 t9 t10 t11 : Value, ac = { tmps := #[heapV A n c R m d, Value.pointer (some { block := w.heap.size, off := 0 }), Value.pointer (some { block := w.heap.size + 1, off := 0 }), t3, undef, t5, t6, t7, t8, t9, t10, t11, undef, undef, undef, undef, undef, undef, undef, undef, undef, undef, undef, undef, undef, undef, undef, undef, undef, undef, undef, undef], defers := [] } ∧ (Below w2.heap.size w2 ww) ∧ (L 0 = true → t5 = .pointer (some ⟨w.heap.size, 0, none⟩)) ∧ (L 1 = true → t6 = .slice A n c) ∧ (L 2 = true → ww.ownsRow w2.heap.size 43 3 t7 n (flatC h.cs rvs)) ∧ (L 3 = true → t8 = .pointer (some ⟨w.heap.size, 1, none⟩)) ∧ (L 4 = true → t9 = .slice R m d) ∧ (L 5 = true → OwnI ww w2.heap.size t10 h.rt ∧ (t7.ownBlock = none ∨ t7.ownBlock ≠ t10.ownBlock) ∧ L 2 = true) ∧ (L 6 = true → t11 = .agg #[t7, t10] ∧ L 5 = true ∧ L 2 = true) ∧ (L 7 = true → ∃ g3, t3 = .pointer (some ⟨g3, 0, none⟩) ∧ w2.heap.size ≤ g3 ∧ ∃ cs, Rw ww g3 26 cs ∧ cs = (if L 8 = true then #[t7, t10] else #[.slice none 0 0, .slice none 0 0])) ∧ (L 8 = true → L 7 = true ∧ L 5 = true ∧ L 2 = true)) ?h0 ?hstep ?hdone
  case h0 => exact ⟨_, _, _, _, _, _, _, _, rfl, (Below.refl _ _).drew, (fun h => absurd h Bool.false_ne_true), (fun h => absurd h Bool.false_ne_true), (fun h => absurd h Bool.false_ne_true), (fun h => absurd h Bool.false_ne_true), (fun h => absurd h Bool.false_ne_true), (fun h => absurd h Bool.false_ne_true), (fun h => absurd h Bool.false_ne_true), (fun h => absurd h Bool.false_ne_true), (fun h => absurd h Bool.false_ne_true)⟩
  case hstep =>
    rintro L ac ww i o ho hL hd ⟨t3, t5, t6, t7, t8, t9, t10, t11, rfl, I0, f0, f1, f2, f3, f4, f5, f6, f7, f8⟩
    have hi : i < 9 := (Array.getElem?_eq_some_iff.1 ho).1
    obtain rfl | rfl | rfl | rfl | rfl | rfl | rfl | rfl | rfl : i = 0 ∨ i = 1 ∨ i = 2 ∨ i = 3 ∨ i = 4 ∨ i = 5 ∨ i = 6 ∨ i = 7 ∨ i = 8 := by omega
    · obtain rfl := Option.some.inj ho
      refine wpOp_step rfl (fun K' hK => ?_)
      go_simp
      refine hK _ _ ?_
      exact ⟨_, _, _, _, _, _, _, _, rfl, (I0), (fun _ => rfl), (kp f1), (kp f2), (kp f3), (kp f4), (fun h => ⟨(f5 (upd_ne h (by decide))).1, (f5 (upd_ne h (by decide))).2.1, upd_mono (f5 (upd_ne h (by decide))).2.2⟩), (fun h => ⟨(f6 (upd_ne h (by decide))).1, upd_mono (f6 (upd_ne h (by decide))).2.1, upd_mono (f6 (upd_ne h (by decide))).2.2⟩), (fun h => by
        obtain ⟨g3, e3, h3, cs, h5, h6⟩ := f7 (upd_ne h (by decide))
        exact ⟨g3, e3, h3, cs, h5, by rw [h6, upd_other (by decide)]⟩), (fun h => ⟨upd_mono (f8 (upd_ne h (by decide))).1, upd_mono (f8 (upd_ne h (by decide))).2.1, upd_mono (f8 (upd_ne h (by decide))).2.2⟩)⟩
    · obtain rfl := Option.some.inj ho
      have g0 := f0 (hd ⟨0, .data⟩ (by simp) rfl)
      subst g0
      have z0 : ww.cell? ⟨w.heap.size, 0, none⟩ = some (.slice A n c) := (I0.cell (p := ⟨w.heap.size, 0, none⟩) (by show w.heap.size < w2.heap.size; omega)).trans (Q1.cell 0)
      refine wpOp_step rfl (fun K' hK => ?_)
      go_simp
      refine hK _ _ ?_
      exact ⟨_, _, _, _, _, _, _, _, rfl, (I0), (kp f0), (fun _ => rfl), (kp f2), (kp f3), (kp f4), (fun h => ⟨(f5 (upd_ne h (by decide))).1, (f5 (upd_ne h (by decide))).2.1, upd_mono (f5 (upd_ne h (by decide))).2.2⟩), (fun h => ⟨(f6 (upd_ne h (by decide))).1, upd_mono (f6 (upd_ne h (by decide))).2.1, upd_mono (f6 (upd_ne h (by decide))).2.2⟩), (fun h => by
        obtain ⟨g3, e3, h3, cs, h5, h6⟩ := f7 (upd_ne h (by decide))
        exact ⟨g3, e3, h3, cs, h5, by rw [h6, upd_other (by decide)]⟩), (fun h => ⟨upd_mono (f8 (upd_ne h (by decide))).1, upd_mono (f8 (upd_ne h (by decide))).2.1, upd_mono (f8 (upd_ne h (by decide))).2.2⟩)⟩
    · obtain rfl := Option.some.inj ho
      have g1 := f1 (hd ⟨1, .data⟩ (by simp) rfl)
      subst g1
      refine wpOp_step rfl (fun K' hK => ?_)
      go_simp
      have bw := B2.trans (I0.mono B2.size)
      have hrv := (hs.up bw)
      obtain ⟨rvs2, hr2, hA2⟩ := (hs.below bw).cells.refs
      refine (cloneC_any A n c h.cs rvs ww HLC.out (by have := HRV.out.below bw; exact ⟨this.1, fun k c v hc hv => by obtain ⟨A1, m1, c1, e, h1, h2⟩ := this.2 k c v hc hv; exact ⟨A1, m1, c1, e, h1, h2.more bw.size⟩⟩) (fun h0 => by obtain ⟨g, o, e, hg, hc⟩ := HRA.out h0; exact ⟨g, o, e, Nat.lt_of_lt_of_le hg bw.size, fun j u hu => (bw.cell (p := ⟨g, o + j, none⟩) hg).trans (hc j u hu)⟩) hn).mono ?_
      rintro e w' ⟨v1, rfl, o1, b5⟩
      refine hK _ _ ?_
      exact ⟨_, _, _, _, _, _, _, _, rfl, (I0.trans (b5.mono I0.size)), (kp f0), (kp f1), (fun _ => row_base o1 I0.size), (kp f3), (kp f4), (fun h => by
        have h1 := upd_ne h (by decide)
        exact absurd (f5 h1).2.2 (by rw [hL]; decide)), (fun h => absurd (f6 (upd_ne h (by decide))).2.2 (by rw [hL]; decide)), (fun h => by
        have hL7 := upd_ne h (by decide)
        obtain ⟨g3, e3, h3, cs, h5, h6⟩ := f7 hL7
        have hL8 : L 8 = false := by
          cases e : L 8
          · rfl
          · have := (f8 e).2.2
            rw [hL] at this
            cases this
        rw [if_neg (by rw [hL8]; decide)] at h6
        exact ⟨g3, e3, h3, cs, h5.keep b5 h5.lt, by rw [h6, upd_other (by decide), if_neg (by rw [hL8]; decide)]⟩), (fun h => ⟨upd_mono (f8 (upd_ne h (by decide))).1, upd_mono (f8 (upd_ne h (by decide))).2.1, upd_mono (f8 (upd_ne h (by decide))).2.2⟩)⟩
    · obtain rfl := Option.some.inj ho
      refine wpOp_step rfl (fun K' hK => ?_)
      go_simp
      refine hK _ _ ?_
      exact ⟨_, _, _, _, _, _, _, _, rfl, (I0), (kp f0), (kp f1), (kp f2), (fun _ => rfl), (kp f4), (fun h => ⟨(f5 (upd_ne h (by decide))).1, (f5 (upd_ne h (by decide))).2.1, upd_mono (f5 (upd_ne h (by decide))).2.2⟩), (fun h => ⟨(f6 (upd_ne h (by decide))).1, upd_mono (f6 (upd_ne h (by decide))).2.1, upd_mono (f6 (upd_ne h (by decide))).2.2⟩), (fun h => by
        obtain ⟨g3, e3, h3, cs, h5, h6⟩ := f7 (upd_ne h (by decide))
        exact ⟨g3, e3, h3, cs, h5, by rw [h6, upd_other (by decide)]⟩), (fun h => ⟨upd_mono (f8 (upd_ne h (by decide))).1, upd_mono (f8 (upd_ne h (by decide))).2.1, upd_mono (f8 (upd_ne h (by decide))).2.2⟩)⟩
    · obtain rfl := Option.some.inj ho
      have g3 := f3 (hd ⟨3, .data⟩ (by simp) rfl)
      subst g3
      have z1 : ww.cell? ⟨w.heap.size, 1, none⟩ = some (.slice R m d) := (I0.cell (p := ⟨w.heap.size, 1, none⟩) (by show w.heap.size < w2.heap.size; omega)).trans (Q1.cell 1)
      refine wpOp_step rfl (fun K' hK => ?_)
      go_simp
      refine hK _ _ ?_
      exact ⟨_, _, _, _, _, _, _, _, rfl, (I0), (kp f0), (kp f1), (kp f2), (kp f3), (fun _ => rfl), (fun h => ⟨(f5 (upd_ne h (by decide))).1, (f5 (upd_ne h (by decide))).2.1, upd_mono (f5 (upd_ne h (by decide))).2.2⟩), (fun h => ⟨(f6 (upd_ne h (by decide))).1, upd_mono (f6 (upd_ne h (by decide))).2.1, upd_mono (f6 (upd_ne h (by decide))).2.2⟩), (fun h => by
        obtain ⟨g3, e3, h3, cs, h5, h6⟩ := f7 (upd_ne h (by decide))
        exact ⟨g3, e3, h3, cs, h5, by rw [h6, upd_other (by decide)]⟩), (fun h => ⟨upd_mono (f8 (upd_ne h (by decide))).1, upd_mono (f8 (upd_ne h (by decide))).2.1, upd_mono (f8 (upd_ne h (by decide))).2.2⟩)⟩
    · obtain rfl := Option.some.inj ho
      have g4 := f4 (hd ⟨4, .data⟩ (by simp) rfl)
      subst g4
      have g2 := f2 (hd ⟨2, .chain⟩ (by simp) rfl)
      refine wpOp_step rfl (fun K' hK => ?_)
      go_simp
      have bw := B2.trans (I0.mono B2.size)
      refine (cloneI_any R m d h.rt ww ((hs.up bw).roots) hm).mono ?_
      rintro e w' ⟨v1, rfl, o1, b5⟩
      refine hK _ _ ?_
      exact ⟨_, _, _, _, _, _, _, _, rfl, (I0.trans (b5.mono I0.size)), (kp f0), (kp f1), (fun h => row_below (f2 (upd_ne h (by decide))) b5 (Nat.le_refl _)), (kp f3), (kp f4), (fun _ => ⟨o1.base I0.size, by
        cases e7 : t7.ownBlock with
        | none => exact .inl rfl
        | some q =>
          right
          intro e
          have a1 := (World.ownsRow.lt g2 q e7).2
          have a2 := (World.ownsRow.lt o1 q e.symm).1
          omega, by rw [upd_other (by decide)]; exact hd ⟨2, .chain⟩ (by simp) rfl⟩), (fun h => absurd (f6 (upd_ne h (by decide))).2.1 (by rw [hL]; decide)), (fun h => by
        have hL7 := upd_ne h (by decide)
        obtain ⟨g3, e3, h3, cs, h5, h6⟩ := f7 hL7
        have hL8 : L 8 = false := by
          cases e : L 8
          · rfl
          · have := (f8 e).2.1
            rw [hL] at this
            cases this
        rw [if_neg (by rw [hL8]; decide)] at h6
        exact ⟨g3, e3, h3, cs, h5.keep b5 h5.lt, by rw [h6, upd_other (by decide), if_neg (by rw [hL8]; decide)]⟩), (fun h => ⟨upd_mono (f8 (upd_ne h (by decide))).1, upd_mono (f8 (upd_ne h (by decide))).2.1, upd_mono (f8 (upd_ne h (by decide))).2.2⟩)⟩
    · obtain rfl := Option.some.inj ho
      have g2 := f2 (hd ⟨2, .data⟩ (by simp) rfl)
      have g5 := f5 (hd ⟨5, .data⟩ (by simp) rfl)
      have l5 := hd ⟨5, .data⟩ (by simp) rfl
      have l2 := hd ⟨2, .data⟩ (by simp) rfl
      obtain ⟨A7, c7, rfl⟩ := row_form g2
      obtain ⟨A9, d9, rfl, -⟩ := g5.1.form
      refine wpOp_step rfl (fun K' hK => ?_)
      go_simp
      refine hK _ _ ?_
      exact ⟨_, _, _, _, _, _, _, _, rfl, (I0), (kp f0), (kp f1), (kp f2), (kp f3), (kp f4), (fun h => ⟨(f5 (upd_ne h (by decide))).1, (f5 (upd_ne h (by decide))).2.1, upd_mono (f5 (upd_ne h (by decide))).2.2⟩), (fun _ => ⟨rfl, upd_mono l5, upd_mono l2⟩), (fun h => by
        obtain ⟨g3, e3, h3, cs, h5, h6⟩ := f7 (upd_ne h (by decide))
        exact ⟨g3, e3, h3, cs, h5, by rw [h6, upd_other (by decide)]⟩), (fun h => ⟨upd_mono (f8 (upd_ne h (by decide))).1, upd_mono (f8 (upd_ne h (by decide))).2.1, upd_mono (f8 (upd_ne h (by decide))).2.2⟩)⟩
    · obtain rfl := Option.some.inj ho
      have hL8 : L 8 = false := by
        cases e : L 8
        · rfl
        · exact absurd (f8 e).1 (by rw [hL]; decide)
      refine wpOp_step rfl (fun K' hK => ?_)
      go_simp
      have b5 : Below ww.heap.size ww (ww.alloc (.cells #[.slice none 0 0, .slice none 0 0] 26)) := (Below.refl _ _).alloc (Nat.le_refl _) _
      refine hK _ _ ?_
      exact ⟨_, _, _, _, _, _, _, _, rfl, (I0.alloc I0.size _), (kp f0), (kp f1), (fun h => row_below (f2 (upd_ne h (by decide))) b5 (Nat.le_refl _)), (kp f3), (kp f4), (fun h => ⟨(f5 (upd_ne h (by decide))).1.below b5 (Nat.le_refl _), (f5 (upd_ne h (by decide))).2.1, upd_mono (f5 (upd_ne h (by decide))).2.2⟩), (fun h => ⟨(f6 (upd_ne h (by decide))).1, upd_mono (f6 (upd_ne h (by decide))).2.1, upd_mono (f6 (upd_ne h (by decide))).2.2⟩), (fun _ => ⟨_, rfl, I0.size, _, Rw.new _ _ _, by rw [upd_other (by decide), hL8, if_neg (by decide)]⟩), (fun h => ⟨upd_mono (f8 (upd_ne h (by decide))).1, upd_mono (f8 (upd_ne h (by decide))).2.1, upd_mono (f8 (upd_ne h (by decide))).2.2⟩)⟩
    · obtain rfl := Option.some.inj ho
      have g6 := f6 (hd ⟨6, .data⟩ (by simp) rfl)
      have g7 := f7 (hd ⟨7, .data⟩ (by simp) rfl)
      have l5 := hd ⟨5, .chain⟩ (by simp) rfl
      have l7 := hd ⟨7, .data⟩ (by simp) rfl
      have g5 := f5 l5
      have g2 := f2 g5.2.2
      have l2 := g5.2.2
      obtain ⟨g6, -, -⟩ := g6
      subst g6
      obtain ⟨g3, e3, h3, cs, h5, h6⟩ := g7
      rw [hL, if_neg (by decide)] at h6
      subst h6
      subst e3
      obtain ⟨A7, c7, rfl⟩ := row_form g2
      obtain ⟨A9, d9, rfl, -⟩ := g5.1.form
      have a7 : (Value.slice A7 n c7).ownBlock = none ∨ (Value.slice A7 n c7).ownBlock ≠ some g3 := .inr (row_type g2 h5 (by decide)).symm
      have a9 : (Value.slice A9 h.rt.length d9).ownBlock = none ∨ (Value.slice A9 h.rt.length d9).ownBlock ≠ some g3 := .inr (row_type g5.1 h5 (by decide)).symm
      have c0 := h5.cell 0
      have c1 := h5.cell 1
      simp only [List.getElem?_toArray, List.getElem?_cons_zero, List.getElem?_cons_succ] at c0 c1
      have z0 := h5.frozen 0
      have z1 := h5.frozen 1
      have hput := (h5.put 0 (.slice A7 n c7)).put 1 (.slice A9 h.rt.length d9)
      refine wpOp_step rfl (fun K' hK => ?_)
      go_simp
      refine hK _ _ ?_
      exact ⟨_, _, _, _, _, _, _, _, rfl, ((I0.setCell (p := ⟨g3, 0, none⟩) (by show w2.heap.size ≤ g3; omega) _).setCell (p := ⟨g3, 1, none⟩) (by show w2.heap.size ≤ g3; omega) _), (kp f0), (kp f1), (fun _ => World.ownsRow.kept (World.ownsRow.kept g2 (put_any ww g3 0 _) a7) (put_any _ g3 1 _) a7), (kp f3), (kp f4), (fun _ => ⟨(g5.1.far (put_any ww g3 0 _) a9).far (put_any _ g3 1 _) a9, g5.2.1, upd_mono l2⟩), (fun h => ⟨(f6 (upd_ne h (by decide))).1, upd_mono (f6 (upd_ne h (by decide))).2.1, upd_mono (f6 (upd_ne h (by decide))).2.2⟩), (fun _ => ⟨g3, rfl, h3, _, hput, by rw [upd_self, if_pos rfl]; rfl⟩), (fun _ => ⟨upd_mono l7, upd_mono l5, upd_mono l2⟩)⟩
  case hdone =>
    rintro L ac ww hall ⟨t3, t5, t6, t7, t8, t9, t10, t11, rfl, I0, f0, f1, f2, f3, f4, f5, f6, f7, f8⟩
    have e0 := f0 (hall 0 (by decide))
    have e1 := f1 (hall 1 (by decide))
    have e2 := f2 (hall 2 (by decide))
    have e3 := f3 (hall 3 (by decide))
    have e4 := f4 (hall 4 (by decide))
    have e5 := f5 (hall 5 (by decide))
    have e6 := f6 (hall 6 (by decide))
    have e7 := f7 (hall 7 (by decide))
    have e8 := f8 (hall 8 (by decide))
    clear f0 f1 f2 f3 f4 f5 f6 f7 f8
    obtain ⟨g3, rfl, hg3, cs, BX, e9⟩ := e7
    rw [hall 8 (by decide), if_pos rfl] at e9
    subst e9
    obtain ⟨e6, -, -⟩ := e6
    subst e0 e1 e3 e4 e6
    obtain ⟨A7, c7, rfl⟩ := row_form e2
    have OR := e5.1
    obtain ⟨A9, d9, rfl, -⟩ := OR.form
    have SP := e5.2.1
    clear e5 e8 hall
    have S0 : MidH ww w2.heap.size (.slice A7 n c7) (.slice A9 h.rt.length d9) [] rvs 0 h :=
      ⟨rfl, Nat.zero_le _, HRV.out.1, by rw [HLC.out]; exact e2, fun j cl v hc hv => by simp at hv, OR, by simp [Sep]; exact SP⟩
    have AP : Apart (some g3) (Value.slice A7 n c7 :: Value.slice A9 h.rt.length d9 :: []) := by
      intro u hu
      simp only [List.mem_cons, List.not_mem_nil, or_false] at hu
      rcases hu with rfl | rfl
      · exact .inr (row_type e2 BX (by decide)).symm
      · exact .inr (row_type OR BX (by decide)).symm
    clear e2 OR SP
    have c0 := BX.cell 0
    have c1 := BX.cell 1
    simp only [List.getElem?_toArray, List.getElem?_cons_zero, List.getElem?_cons_succ] at c0 c1
    go_wp2_with fail
    go_loopw [15] (fun i wr => ∃ (k : Nat) (ovs : List Value), k ≤ n ∧ i = .int .i64 k ∧ MidH wr w2.heap.size (.slice A7 n c7) (.slice A9 h.rt.length d9) ovs rvs k h ∧ Apart (some g3) (Value.slice A7 n c7 :: Value.slice A9 h.rt.length d9 :: ovs) ∧ Rw wr g3 26 #[.slice A7 n c7, .slice A9 h.rt.length d9] ∧ Below w2.heap.size w2 wr) (fun i _ => n - (intOf i).toNat)
    case atStart => exact ⟨0, [], Nat.zero_le _, rfl, S0, AP, BX, I0⟩
    case round =>
      clear S0 AP BX I0 c0 c1
      obtain ⟨k, ovs, hk, rfl, S, AP, BX, IW⟩ := hrel
      have bw := B2.trans (IW.mono B2.size)
      by_cases hlt : k < n
      · have hck := List.getElem?_eq_getElem (show k < h.cs.length by rw [HLC.out]; exact hlt)
        generalize h.cs[k]'(by rw [HLC.out]; exact hlt) = cl at hck
        obtain ⟨A8, c8, R8, d8, q1, -, -, fA⟩ := S.form
        obtain ⟨g, hg0, hg1, hg2⟩ := fA (by rw [HLC.out]; omega)
        have hA7 : A7 = some ⟨g, 0, none⟩ := by
          have q1 := q1
          injection q1 with q1 _ _
          exact q1.trans hg0
        subst hA7
        clear q1 fA hg0
        obtain ⟨A1, m1, c1, x2, hm1, is1, fz⟩ := S.ref HLC.out hck (HRV.out.below bw)
        have is2 := is1.more bw.size
        have hm3 : m1 ≤ 1099511627776 := by
          have := is1.1
          have := H3.out cl (List.mem_of_getElem? hck)
          omega
        have x0 := BX.cell 0
        simp only [List.getElem?_toArray, List.getElem?_cons_zero] at x0
        have hlt' : (k : Int) < n := by omega
        have hbx := BX.lt
        have fzg := fz (k * 3 + 2)
        clear is1 fz hm1
        have HCK := Lib.hid hck
        have SS := Lib.hid S
        have AA := Lib.hid AP
        have BB := Lib.hid BX
        clear hck S AP BX
        go_upto_region 5 with fail
        refine wp_region_inv (by kernel_rfl) (by kernel_rfl) (fun L ac ww => ∃ t18 t19 t20 t21 t22 t23 t24 t25 t26 t27 t28 t29 : Value, ac = { tmps := #[heapV A n c R m d, Value.pointer (some { block := w.heap.size, off := 0 }), Value.pointer (some { block := w.heap.size + 1, off := 0 }), Value.pointer (some { block := g3, off := 0 }), Value.int IntKind.i64 ↑k, Value.pointer (some { block := w.heap.size, off := 0 }), Value.slice A n c, Value.slice (some { block := g, off := 0 }) n c7, Value.pointer (some { block := w.heap.size, off := 1 }), Value.slice R m d, Value.slice A9 h.rt.length d9, Value.agg #[Value.slice (some { block := g, off := 0 }) n c7, Value.slice A9 h.rt.length d9], Value.pointer (some { block := g3, off := 0 }), Value.slice (some { block := g, off := 0 }) n c7, Value.int IntKind.i64 ↑n, Value.int IntKind.i64 ↑k, Value.bool true, Value.int IntKind.i64 ↑k, t18, t19, t20, t21, t22, t23, t24, t25, t26, t27, t28, t29, u30, undef], defers := [] } ∧ (L 12 = false → Below wr.heap.size wr ww) ∧ (L 0 = true → t18 = .pointer (some ⟨g3, 0, none⟩)) ∧ (L 1 = true → t19 = .slice (some ⟨g, 0, none⟩) n c7) ∧ (L 2 = true → t20 = .int .i64 k) ∧ (L 3 = true → t21 = .pointer (some ⟨g3, 0, none⟩)) ∧ (L 4 = true → t22 = .slice (some ⟨g, 0, none⟩) n c7) ∧ (L 5 = true → t23 = .int .i64 k) ∧ (L 6 = true → t24 = .pointer (some ⟨g, k * 3, none⟩)) ∧ (L 7 = true → t25 = .pointer (some ⟨g, k * 3 + 2, none⟩)) ∧ (L 8 = true → t26 = .slice A1 m1 c1) ∧ (L 9 = true → L 12 = false → OwnI ww wr.heap.size t27 cl.r) ∧ (L 10 = true → t28 = .pointer (some ⟨g, k * 3, none⟩)) ∧ (L 11 = true → t29 = .pointer (some ⟨g, k * 3 + 2, none⟩) ∧ L 10 = true) ∧ (L 12 = true → (∀ q, q < 12 → L q = true) ∧ ∃ w5, Below wr.heap.size wr w5 ∧ OwnI w5 wr.heap.size t27 cl.r ∧ ww = w5.setCell ⟨g, k * 3 + 2, none⟩ t27)) ?h0 ?hstep ?hdone
        case h0 => exact ⟨_, _, _, _, _, _, _, _, _, _, _, _, rfl, fun _ => (Below.refl _ _).drew, (fun h => absurd h Bool.false_ne_true), (fun h => absurd h Bool.false_ne_true), (fun h => absurd h Bool.false_ne_true), (fun h => absurd h Bool.false_ne_true), (fun h => absurd h Bool.false_ne_true), (fun h => absurd h Bool.false_ne_true), (fun h => absurd h Bool.false_ne_true), (fun h => absurd h Bool.false_ne_true), (fun h => absurd h Bool.false_ne_true), (fun h => absurd h Bool.false_ne_true), (fun h => absurd h Bool.false_ne_true), (fun h => absurd h Bool.false_ne_true), (fun h => absurd h Bool.false_ne_true)⟩
        case hstep =>
          rintro L ac ww i o ho hL hd ⟨t18, t19, t20, t21, t22, t23, t24, t25, t26, t27, t28, t29, rfl, I0, f0, f1, f2, f3, f4, f5, f6, f7, f8, f9, f10, f11, f12⟩
          have hi : i < 13 := (Array.getElem?_eq_some_iff.1 ho).1
          obtain rfl | rfl | rfl | rfl | rfl | rfl | rfl | rfl | rfl | rfl | rfl | rfl | rfl : i = 0 ∨ i = 1 ∨ i = 2 ∨ i = 3 ∨ i = 4 ∨ i = 5 ∨ i = 6 ∨ i = 7 ∨ i = 8 ∨ i = 9 ∨ i = 10 ∨ i = 11 ∨ i = 12 := by omega
          · obtain rfl := Option.some.inj ho
            have hL12 : L 12 = false := by
              cases e : L 12
              · rfl
              · exact absurd ((f12 e).1 0 (by omega)) (by rw [hL]; decide)
            have J := I0 hL12
            refine wpOp_step rfl (fun K' hK => ?_)
            go_simp
            refine hK _ _ ?_
            exact ⟨_, _, _, _, _, _, _, _, _, _, _, _, rfl, (fun _ => J), (fun _ => rfl), (kp f1), (kp f2), (kp f3), (kp f4), (kp f5), (kp f6), (kp f7), (kp f8), (fun h _ => f9 (upd_ne h (by decide)) hL12), (kp f10), (fun h => ⟨(f11 (upd_ne h (by decide))).1, upd_mono (f11 (upd_ne h (by decide))).2⟩), (fun h => absurd ((f12 (upd_ne h (by decide))).1 0 (by omega)) (by rw [hL]; decide))⟩
          · obtain rfl := Option.some.inj ho
            have g0 := f0 (hd ⟨0, .data⟩ (by simp) rfl)
            subst g0
            have hL12 : L 12 = false := by
              cases e : L 12
              · rfl
              · exact absurd ((f12 e).1 1 (by omega)) (by rw [hL]; decide)
            have J := I0 hL12
            have z0 : ww.cell? ⟨g3, 0, none⟩ = some (.slice (some ⟨g, 0, none⟩) n c7) := (J.cell (p := ⟨g3, 0, none⟩) hbx).trans x0
            refine wpOp_step rfl (fun K' hK => ?_)
            go_simp
            refine hK _ _ ?_
            exact ⟨_, _, _, _, _, _, _, _, _, _, _, _, rfl, (fun _ => J), (kp f0), (fun _ => rfl), (kp f2), (kp f3), (kp f4), (kp f5), (kp f6), (kp f7), (kp f8), (fun h _ => f9 (upd_ne h (by decide)) hL12), (kp f10), (fun h => ⟨(f11 (upd_ne h (by decide))).1, upd_mono (f11 (upd_ne h (by decide))).2⟩), (fun h => absurd ((f12 (upd_ne h (by decide))).1 1 (by omega)) (by rw [hL]; decide))⟩
          · obtain rfl := Option.some.inj ho
            have hL12 : L 12 = false := by
              cases e : L 12
              · rfl
              · exact absurd ((f12 e).1 2 (by omega)) (by rw [hL]; decide)
            have J := I0 hL12
            refine wpOp_step rfl (fun K' hK => ?_)
            go_simp
            refine hK _ _ ?_
            exact ⟨_, _, _, _, _, _, _, _, _, _, _, _, rfl, (fun _ => J), (kp f0), (kp f1), (fun _ => rfl), (kp f3), (kp f4), (kp f5), (kp f6), (kp f7), (kp f8), (fun h _ => f9 (upd_ne h (by decide)) hL12), (kp f10), (fun h => ⟨(f11 (upd_ne h (by decide))).1, upd_mono (f11 (upd_ne h (by decide))).2⟩), (fun h => absurd ((f12 (upd_ne h (by decide))).1 2 (by omega)) (by rw [hL]; decide))⟩
          · obtain rfl := Option.some.inj ho
            have hL12 : L 12 = false := by
              cases e : L 12
              · rfl
              · exact absurd ((f12 e).1 3 (by omega)) (by rw [hL]; decide)
            have J := I0 hL12
            refine wpOp_step rfl (fun K' hK => ?_)
            go_simp
            refine hK _ _ ?_
            exact ⟨_, _, _, _, _, _, _, _, _, _, _, _, rfl, (fun _ => J), (kp f0), (kp f1), (kp f2), (fun _ => rfl), (kp f4), (kp f5), (kp f6), (kp f7), (kp f8), (fun h _ => f9 (upd_ne h (by decide)) hL12), (kp f10), (fun h => ⟨(f11 (upd_ne h (by decide))).1, upd_mono (f11 (upd_ne h (by decide))).2⟩), (fun h => absurd ((f12 (upd_ne h (by decide))).1 3 (by omega)) (by rw [hL]; decide))⟩
          · obtain rfl := Option.some.inj ho
            have g3 := f3 (hd ⟨3, .data⟩ (by simp) rfl)
            subst g3
            have hL12 : L 12 = false := by
              cases e : L 12
              · rfl
              · exact absurd ((f12 e).1 4 (by omega)) (by rw [hL]; decide)
            have J := I0 hL12
            have z0 : ww.cell? ⟨g3, 0, none⟩ = some (.slice (some ⟨g, 0, none⟩) n c7) := (J.cell (p := ⟨g3, 0, none⟩) hbx).trans x0
            refine wpOp_step rfl (fun K' hK => ?_)
            go_simp
            refine hK _ _ ?_
            exact ⟨_, _, _, _, _, _, _, _, _, _, _, _, rfl, (fun _ => J), (kp f0), (kp f1), (kp f2), (kp f3), (fun _ => rfl), (kp f5), (kp f6), (kp f7), (kp f8), (fun h _ => f9 (upd_ne h (by decide)) hL12), (kp f10), (fun h => ⟨(f11 (upd_ne h (by decide))).1, upd_mono (f11 (upd_ne h (by decide))).2⟩), (fun h => absurd ((f12 (upd_ne h (by decide))).1 4 (by omega)) (by rw [hL]; decide))⟩
          · obtain rfl := Option.some.inj ho
            have hL12 : L 12 = false := by
              cases e : L 12
              · rfl
              · exact absurd ((f12 e).1 5 (by omega)) (by rw [hL]; decide)
            have J := I0 hL12
            refine wpOp_step rfl (fun K' hK => ?_)
            go_simp
            refine hK _ _ ?_
            exact ⟨_, _, _, _, _, _, _, _, _, _, _, _, rfl, (fun _ => J), (kp f0), (kp f1), (kp f2), (kp f3), (kp f4), (fun _ => rfl), (kp f6), (kp f7), (kp f8), (fun h _ => f9 (upd_ne h (by decide)) hL12), (kp f10), (fun h => ⟨(f11 (upd_ne h (by decide))).1, upd_mono (f11 (upd_ne h (by decide))).2⟩), (fun h => absurd ((f12 (upd_ne h (by decide))).1 5 (by omega)) (by rw [hL]; decide))⟩
          · obtain rfl := Option.some.inj ho
            have g4 := f4 (hd ⟨4, .data⟩ (by simp) rfl)
            have g5 := f5 (hd ⟨5, .data⟩ (by simp) rfl)
            subst g4
            subst g5
            have hL12 : L 12 = false := by
              cases e : L 12
              · rfl
              · exact absurd ((f12 e).1 6 (by omega)) (by rw [hL]; decide)
            have J := I0 hL12
            refine wpOp_step rfl (fun K' hK => ?_)
            go_simp
            refine hK _ _ ?_
            exact ⟨_, _, _, _, _, _, _, _, _, _, _, _, rfl, (fun _ => J), (kp f0), (kp f1), (kp f2), (kp f3), (kp f4), (kp f5), (fun _ => rfl), (kp f7), (kp f8), (fun h _ => f9 (upd_ne h (by decide)) hL12), (kp f10), (fun h => ⟨(f11 (upd_ne h (by decide))).1, upd_mono (f11 (upd_ne h (by decide))).2⟩), (fun h => absurd ((f12 (upd_ne h (by decide))).1 6 (by omega)) (by rw [hL]; decide))⟩
          · obtain rfl := Option.some.inj ho
            have g6 := f6 (hd ⟨6, .data⟩ (by simp) rfl)
            subst g6
            have hL12 : L 12 = false := by
              cases e : L 12
              · rfl
              · exact absurd ((f12 e).1 7 (by omega)) (by rw [hL]; decide)
            have J := I0 hL12
            refine wpOp_step rfl (fun K' hK => ?_)
            go_simp
            refine hK _ _ ?_
            exact ⟨_, _, _, _, _, _, _, _, _, _, _, _, rfl, (fun _ => J), (kp f0), (kp f1), (kp f2), (kp f3), (kp f4), (kp f5), (kp f6), (fun _ => rfl), (kp f8), (fun h _ => f9 (upd_ne h (by decide)) hL12), (kp f10), (fun h => ⟨(f11 (upd_ne h (by decide))).1, upd_mono (f11 (upd_ne h (by decide))).2⟩), (fun h => absurd ((f12 (upd_ne h (by decide))).1 7 (by omega)) (by rw [hL]; decide))⟩
          · obtain rfl := Option.some.inj ho
            have g7 := f7 (hd ⟨7, .data⟩ (by simp) rfl)
            subst g7
            have hL12 : L 12 = false := by
              cases e : L 12
              · rfl
              · exact absurd ((f12 e).1 8 (by omega)) (by rw [hL]; decide)
            have J := I0 hL12
            have z0 : ww.cell? ⟨g, k * 3 + 2, none⟩ = some (.slice A1 m1 c1) := (J.cell (p := ⟨g, k * 3 + 2, none⟩) hg2).trans x2
            refine wpOp_step rfl (fun K' hK => ?_)
            go_simp
            refine hK _ _ ?_
            exact ⟨_, _, _, _, _, _, _, _, _, _, _, _, rfl, (fun _ => J), (kp f0), (kp f1), (kp f2), (kp f3), (kp f4), (kp f5), (kp f6), (kp f7), (fun _ => rfl), (fun h _ => f9 (upd_ne h (by decide)) hL12), (kp f10), (fun h => ⟨(f11 (upd_ne h (by decide))).1, upd_mono (f11 (upd_ne h (by decide))).2⟩), (fun h => absurd ((f12 (upd_ne h (by decide))).1 8 (by omega)) (by rw [hL]; decide))⟩
          · obtain rfl := Option.some.inj ho
            have g8 := f8 (hd ⟨8, .data⟩ (by simp) rfl)
            subst g8
            have hL12 : L 12 = false := by
              cases e : L 12
              · rfl
              · exact absurd ((f12 e).1 9 (by omega)) (by rw [hL]; decide)
            have J := I0 hL12
            refine wpOp_step rfl (fun K' hK => ?_)
            go_simp
            refine (cloneI_any A1 m1 c1 cl.r ww (is2.up J) hm3).mono ?_
            rintro e w' ⟨v1, rfl, o1, b5⟩
            refine hK _ _ ?_
            exact ⟨_, _, _, _, _, _, _, _, _, _, _, _, rfl, (fun _ => J.trans (b5.mono J.size)), (kp f0), (kp f1), (kp f2), (kp f3), (kp f4), (kp f5), (kp f6), (kp f7), (kp f8), (fun _ _ => o1.base J.size), (kp f10), (fun h => ⟨(f11 (upd_ne h (by decide))).1, upd_mono (f11 (upd_ne h (by decide))).2⟩), (fun h => absurd ((f12 (upd_ne h (by decide))).1 9 (by omega)) (by rw [hL]; decide))⟩
          · obtain rfl := Option.some.inj ho
            have g1 := f1 (hd ⟨1, .data⟩ (by simp) rfl)
            have g2 := f2 (hd ⟨2, .data⟩ (by simp) rfl)
            subst g1
            subst g2
            have hL12 : L 12 = false := by
              cases e : L 12
              · rfl
              · exact absurd ((f12 e).1 10 (by omega)) (by rw [hL]; decide)
            have J := I0 hL12
            refine wpOp_step rfl (fun K' hK => ?_)
            go_simp
            refine hK _ _ ?_
            exact ⟨_, _, _, _, _, _, _, _, _, _, _, _, rfl, (fun _ => J), (kp f0), (kp f1), (kp f2), (kp f3), (kp f4), (kp f5), (kp f6), (kp f7), (kp f8), (fun h _ => f9 (upd_ne h (by decide)) hL12), (fun _ => rfl), (fun h => ⟨(f11 (upd_ne h (by decide))).1, upd_mono (f11 (upd_ne h (by decide))).2⟩), (fun h => absurd ((f12 (upd_ne h (by decide))).1 10 (by omega)) (by rw [hL]; decide))⟩
          · obtain rfl := Option.some.inj ho
            have g10 := f10 (hd ⟨10, .data⟩ (by simp) rfl)
            subst g10
            have hL12 : L 12 = false := by
              cases e : L 12
              · rfl
              · exact absurd ((f12 e).1 11 (by omega)) (by rw [hL]; decide)
            have J := I0 hL12
            refine wpOp_step rfl (fun K' hK => ?_)
            go_simp
            refine hK _ _ ?_
            exact ⟨_, _, _, _, _, _, _, _, _, _, _, _, rfl, (fun _ => J), (kp f0), (kp f1), (kp f2), (kp f3), (kp f4), (kp f5), (kp f6), (kp f7), (kp f8), (fun h _ => f9 (upd_ne h (by decide)) hL12), (kp f10), (fun _ => ⟨rfl, upd_mono (hd ⟨10, .data⟩ (by simp) rfl)⟩), (fun h => absurd ((f12 (upd_ne h (by decide))).1 11 (by omega)) (by rw [hL]; decide))⟩
          · obtain rfl := Option.some.inj ho
            have g9 := f9 (hd ⟨9, .data⟩ (by simp) rfl)
            have g11 := f11 (hd ⟨11, .data⟩ (by simp) rfl)
            have l11 := Lib.hid (hd ⟨11, .data⟩ (by simp) rfl)
            have l10 := Lib.hid g11.2
            obtain ⟨g11, -⟩ := g11
            subst g11
            have J := I0 hL
            have o9 := g9 hL
            have hfz : ww.frozen? ⟨g, k * 3 + 2, none⟩ = false := (World.frozen?_of_block (J.block g hg2)).trans fzg
            have hcl : ww.cell? ⟨g, k * 3 + 2, none⟩ = some (.slice A1 m1 c1) := (J.cell (p := ⟨g, k * 3 + 2, none⟩) hg2).trans x2
            obtain ⟨A2, c2, rfl⟩ := row_form o9
            refine wpOp_step rfl (fun K' hK => ?_)
            go_simp
            refine hK _ _ ?_
            exact ⟨_, _, _, _, _, _, _, _, _, _, _, _, rfl, (fun h => absurd h (by rw [upd_self]; decide)), (kp f0), (kp f1), (kp f2), (kp f3), (kp f4), (kp f5), (kp f6), (kp f7), (kp f8), (fun _ h => absurd h (by rw [upd_self]; decide)), (kp f10), (fun h => ⟨(f11 (upd_ne h (by decide))).1, upd_mono (f11 (upd_ne h (by decide))).2⟩), (fun _ => ⟨fun q hq => by
              obtain rfl | rfl | rfl | rfl | rfl | rfl | rfl | rfl | rfl | rfl | rfl | rfl : q = 0 ∨ q = 1 ∨ q = 2 ∨ q = 3 ∨ q = 4 ∨ q = 5 ∨ q = 6 ∨ q = 7 ∨ q = 8 ∨ q = 9 ∨ q = 10 ∨ q = 11 := by omega
              all_goals first | exact upd_mono l10.out | exact upd_mono l11.out | exact upd_mono (hd ⟨_, .phase⟩ (by simp) rfl), ww, J, o9, rfl⟩)⟩
        case hdone =>
          rintro L ac ww hall ⟨t18, t19, t20, t21, t22, t23, t24, t25, t26, t27, t28, t29, rfl, I0, f0, f1, f2, f3, f4, f5, f6, f7, f8, f9, f10, f11, f12⟩
          have e0 := f0 (hall 0 (by decide))
          have e1 := f1 (hall 1 (by decide))
          have e2 := f2 (hall 2 (by decide))
          have e3 := f3 (hall 3 (by decide))
          have e4 := f4 (hall 4 (by decide))
          have e5 := f5 (hall 5 (by decide))
          have e6 := f6 (hall 6 (by decide))
          have e7 := f7 (hall 7 (by decide))
          have e8 := f8 (hall 8 (by decide))
          have e9 := f9 (hall 9 (by decide))
          have e10 := f10 (hall 10 (by decide))
          have e11 := f11 (hall 11 (by decide))
          have e12 := f12 (hall 12 (by decide))
          clear f0 f1 f2 f3 f4 f5 f6 f7 f8 f9 f10 f11 f12
          obtain ⟨-, w5, b5, o5, rfl⟩ := e12
          have hb1 : (⟨g, k * 3 + 2, none⟩ : Addr).block = g := rfl
          have hI : Below w2.heap.size w2 (w5.setCell ⟨g, k * 3 + 2, none⟩ t27) := (IW.trans (b5.mono IW.size)).setCell (p := ⟨g, k * 3 + 2, none⟩) hg1 _
          have hnew : ∀ u : Value, (∀ q, u.ownBlock = some q → q < wr.heap.size) → t27.ownBlock = none ∨ t27.ownBlock ≠ u.ownBlock := fun u hu => by
            cases e : t27.ownBlock with
            | none => exact .inl rfl
            | some q =>
              right
              intro e2
              have a1 := (World.ownsRow.lt o5 q e).1
              have a2 := hu q e2.symm
              omega
          have hS := (SS.out.below b5 (Nat.le_refl _)).next HLC.out HCK.out (o5.base (by have := IW.size; omega)) (fun u hu => hnew u (fun q hq => (SS.out.blocks hu hq).2))
          have hg3g : g3 ≠ g := fun e => by
            rcases AA.out _ (List.mem_cons_self ..) with h1 | h1
            · cases h1
            · exact h1 (by rw [e]; rfl)
          have hAP : Apart (some g3) (Value.slice (some ⟨g, 0, none⟩) n c7 :: Value.slice A9 h.rt.length d9 :: (ovs ++ [t27])) := by
            intro u hu
            rw [List.mem_cons, List.mem_cons, List.mem_append, List.mem_singleton] at hu
            rcases hu with rfl | rfl | hu | rfl
            · exact AA.out _ (by simp)
            · exact AA.out _ (by simp)
            · exact AA.out _ (by simp [hu])
            · cases e : u.ownBlock with
              | none => exact .inl rfl
              | some q =>
                right
                intro e2
                have a1 := (World.ownsRow.lt o5 q e).1
                have a2 := Option.some.inj e2
                omega
          have hBX : Rw (w5.setCell ⟨g, k * 3 + 2, none⟩ t27) g3 26 #[.slice (some ⟨g, 0, none⟩) n c7, .slice A9 h.rt.length d9] := (BB.out.keep b5 hbx).other hg3g t27
          obtain ⟨e11, -⟩ := e11
          clear e0 e1 e2 e3 e4 e5 e6 e7 e8 e9 e10 e11 hall I0 IW bw SS AA BB hnew b5 o5 hb1
          go_wp2_with fail
          go_roundw
          case rel => exact ⟨k + 1, ovs ++ [t27], by omega, by go_num, hS, hAP, hBX, hI⟩
          case measure => simp [intOf]; omega
      · obtain rfl : k = n := by omega
        have own := S.done HLC.out.symm
        have x0 := BX.cell 0
        have x1 := BX.cell 1
        simp only [List.getElem?_toArray, List.getElem?_cons_zero, List.getElem?_cons_succ] at x0 x1
        have q3 := Q2.keep IW hz
        have r2 : wr.frozen? ⟨w.heap.size + 1, 0, none⟩ = false := q3.frozen 0
        have r3 : wr.frozen? ⟨w.heap.size + 1, 1, none⟩ = false := q3.frozen 1
        have r4 : wr.cell? ⟨w.heap.size + 1, 0, none⟩ = some (.slice none 0 0) := q3.cell 0
        have r5 : wr.cell? ⟨w.heap.size + 1, 1, none⟩ = some (.slice none 0 0) := q3.cell 1
        have r6 : ((wr.setCell ⟨w.heap.size + 1, 0, none⟩ (.slice A7 k c7)).setCell ⟨w.heap.size + 1, 1, none⟩ (.slice A9 h.rt.length d9)).cell? ⟨w.heap.size + 1, 0, none⟩ = some (.slice A7 k c7) := ((q3.put 0 (.slice A7 k c7)).put 1 (.slice A9 h.rt.length d9)).cell 0
        have r7 : ((wr.setCell ⟨w.heap.size + 1, 0, none⟩ (.slice A7 k c7)).setCell ⟨w.heap.size + 1, 1, none⟩ (.slice A9 h.rt.length d9)).cell? ⟨w.heap.size + 1, 1, none⟩ = some (.slice A9 h.rt.length d9) := ((q3.put 0 (.slice A7 k c7)).put 1 (.slice A9 h.rt.length d9)).cell 1
        have D := Lib.hid (OwnH.out (w := w) (g := w.heap.size + 1) ⟨ovs, own⟩ (by omega) bw (by omega))
        clear own S AP BX q3 bw IW B2 Q1 Q2
        go_wp2_with fail
        exact bodyPost_ret (v := .agg #[.slice A7 k c7, .slice A9 h.rt.length d9]) (by simp [results, Tryd.results72, go_sem, *]) rfl ⟨_, _, rfl, D.out.1, D.out.2⟩
end Go.Proofs.YtfgdenmlfloloaaDoor

namespace Go.Proofs.YtfgdenmlfloloaaDoor
open Go.RowKit
set_option maxRecDepth 100000
theorem upTo_any (x m : Int) (w : World) : Calls Tryd.prog 136 #[.int .i64 x, .int .i64 m] w fun e w' => e = .returned (.bool (Hps.inR x 0 m)) ∧ w = w' := by
  by_cases h0 : 0 ≤ x
  · have d0 : decide (0 ≤ x) = true := decide_eq_true h0
    have R := Lib.hid (show Hps.inR x 0 m = decide (x ≤ m) by simp [Hps.inR, h0])
    go_enter Tryd.func136, Tryd.ntmps136
    go_wp2_with fail
    go_ret
    exact ⟨by rw [R.out]; rfl, rfl⟩
  · have d0 : decide (0 ≤ x) = false := decide_eq_false h0
    have R := Lib.hid (show Hps.inR x 0 m = false by simp [Hps.inR, h0])
    go_enter Tryd.func136, Tryd.ntmps136
    go_wp2_with fail
    go_ret
    exact ⟨by rw [R.out]; rfl, rfl⟩
theorem upTo_is (x m : Int) (b : Bool) (w : World) (h : Hps.inR x 0 m = b) : Calls Tryd.prog 136 #[.int .i64 x, .int .i64 m] w fun e w' => e = .returned (.bool b) ∧ w = w' := h ▸ upTo_any x m w
/-- an operation of the table -/
abbrev opA (x y z : Int) (f g : Nat) : Value := .agg #[.int .i64 x, .int .i64 y, .int .i64 z, .func (.func f) #[] #[], .func (.func g) #[] #[]]
/-- none -/
abbrev opZ : Value := .agg #[.int .i64 0, .int .i64 0, .int .i64 0, .nilFunc, .nilFunc]
abbrev op1 : Value := opA 3 3 99 126 127
abbrev op2 : Value := opA 3 3 2 128 129
abbrev op3 : Value := opA 3 3 2 130 131
abbrev op4 : Value := opA 3 3 0 126 132
abbrev op5 : Value := opA 3 0 0 126 133
abbrev op6 : Value := opA 3 99 0 134 135
/-- the cells of the table -/
def opsC : Array Value := opZ.cells ++ op1.cells ++ op2.cells ++ op3.cells ++ op4.cells ++ op5.cells ++ op6.cells
/-- the table -/
abbrev opsV : Value := .agg opsC
theorem info_ops : (Tryd.prog.info? 143).map (·.size) = some opsC.size := by kernel_rfl
theorem opsC_one : opsC.all (·.oneCell') = true := by decide +kernel
/-- a table is stored whole -/
theorem wpList_storeOps {w : World} {ops : Array Oper} {rest : List Oper} {o : Oper} {a : Act} {Q : Exit → Act → World → Prop} (p v : Operand) (g : Nat) (c : Array Value) (hgd : o.guard = none) (ho : o.op = .store 143 p v)
    (hp : a.eval p = .pointer (some ⟨g, 0, none⟩)) (hv : a.eval v = opsV) (hr : Rw w g 143 c) (hs : c.size = 35) (hd : o.dst = none)
    (h : wpList Tryd.prog ops Q rest a (w.setRow g opsC)) : wpList Tryd.prog ops Q (o :: rest) a w :=
  wpList_plain hgd fun K hK => by
    have hst := run_storeVar_row (P := Tryd.prog) w g 143 143 c opsC hr info_ops (by rw [hs]; rfl) opsC_one
    unfold Oper.wp execOp
    simp only [ho, hp, hv, Instr.storeAt, Instr.sureAddr, Sem.run_bind, Sem.run_pure, Result.andThen_ok, hst]
    exact hK (a.put o.dst undef) _ (by rw [hd]; exact h)
theorem rw_row {w : World} {g : Nat} {t : TypeId} {c : Array Value} (h : Rw w g t c) (c' : Array Value) : Rw (w.setRow g c') g t c' := by
  unfold Rw at h ⊢
  simp [World.setRow, Array.getElem?_modify, h]
set_option maxHeartbeats 4000000 in
theorem operations_any (w : World) : Calls Tryd.prog 112 #[] w fun e w' => e = .returned opsV ∧ Below w.heap.size w w' := by
  go_enter Tryd.func112, Tryd.ntmps112
  go_wp2_with (with_reducible refine wpList_storeOps _ _ _ _ rfl rfl rfl ?hv (Rw.new _ _ _) ?hs rfl ?_)
  · rfl
  · rfl
  have hrow := rw_row (Rw.new w 143 opsC) opsC
  rw [World.setRow_alloc_new] at hrow ⊢
  have hld := run_loadVar_row (P := Tryd.prog) _ w.heap.size _ _ _ (0, 0) _ hrow Tryd.underlying143 rfl info_ops
  refine bodyPost_ret (v := opsV) ?_ rfl ⟨rfl, (Below.refl _ _).alloc (Nat.le_refl _) _⟩
  simp [results, Tryd.results112, asAddr, hld]
set_option maxHeartbeats 1000000 in
theorem takes_any (f g : Nat) (x y z : Int) (o : Cm) (w : World) : Calls Tryd.prog 113 #[opA x y z f g, cmV o] w fun e w' => e = .returned (.bool (Hps.inR o.a 0 x && Hps.inR o.b 0 y && Hps.inR o.c 0 z)) ∧ Below w.heap.size w w' := by
  obtain ⟨op, a, b, c⟩ := o
  have bb : Below w.heap.size w ((w.alloc (.cells #[.int .i64 x, .int .i64 y, .int .i64 z, .func (.func f) #[] #[], .func (.func g) #[] #[]] 111)).alloc (.cells #[.int .i64 op, .int .i64 a, .int .i64 b, .int .i64 c] 36)) := ((Below.refl _ _).alloc (Nat.le_refl _) _).alloc (by simp) _
  obtain ⟨xa, ha⟩ : ∃ u, Hps.inR a 0 x = u := ⟨_, rfl⟩
  obtain ⟨xb, hb⟩ : ∃ u, Hps.inR b 0 y = u := ⟨_, rfl⟩
  obtain ⟨xc, hc⟩ : ∃ u, Hps.inR c 0 z = u := ⟨_, rfl⟩
  have HA := Lib.hid ha
  have HB := Lib.hid hb
  have HC := Lib.hid hc
  clear ha hb hc
  go_enter Tryd.func113, Tryd.ntmps113
  go_wp2_with fail
  refine (upTo_is _ _ _ _ HA.out).mono ?_
  rintro e w1 ⟨rfl, rfl⟩
  cases xa
  · go_wp2_with fail
    go_ret
    exact ⟨by rw [HA.out]; rfl, bb⟩
  go_wp2_with fail
  refine (upTo_is _ _ _ _ HB.out).mono ?_
  rintro e w1 ⟨rfl, rfl⟩
  cases xb
  · go_wp2_with fail
    go_ret
    exact ⟨by rw [HA.out, HB.out]; rfl, bb⟩
  go_wp2_with fail
  refine (upTo_is _ _ _ _ HC.out).mono ?_
  rintro e w1 ⟨rfl, rfl⟩
  go_wp2_with fail
  go_ret
  exact ⟨by rw [HA.out, HB.out, HC.out]; rfl, bb⟩
theorem run_op1 (w : World) : (Instr.index 143 opsV (.int .i64 1)).run Tryd.prog w = .ok op1 w := by kernel_rfl
theorem run_op2 (w : World) : (Instr.index 143 opsV (.int .i64 2)).run Tryd.prog w = .ok op2 w := by kernel_rfl
theorem run_op3 (w : World) : (Instr.index 143 opsV (.int .i64 3)).run Tryd.prog w = .ok op3 w := by kernel_rfl
theorem run_op4 (w : World) : (Instr.index 143 opsV (.int .i64 4)).run Tryd.prog w = .ok op4 w := by kernel_rfl
theorem run_op5 (w : World) : (Instr.index 143 opsV (.int .i64 5)).run Tryd.prog w = .ok op5 w := by kernel_rfl
theorem run_op6 (w : World) : (Instr.index 143 opsV (.int .i64 6)).run Tryd.prog w = .ok op6 w := by kernel_rfl
end Go.Proofs.YtfgdenmlfloloaaDoor

namespace Go.Proofs.YtfgdenmlfloloaaDoor
open Go.RowKit
set_option maxRecDepth 100000
set_option maxHeartbeats 1000000 in
theorem operationOf_bad (o : Cm) (w : World) (h : o.op < 1 ∨ 6 < o.op) : Calls Tryd.prog 71 #[cmV o] w fun e w' => e = .returned (.tuple #[opZ, .bool false]) ∧ Below w.heap.size w w' := by
  obtain ⟨k, a, b, c⟩ := o
  simp only at h
  have b1 : Below w.heap.size w ((w.alloc (.cells #[.int .i64 k, .int .i64 a, .int .i64 b, .int .i64 c] 36)).alloc (.cells #[.int .i64 0, .int .i64 0, .int .i64 0, .nilFunc, .nilFunc] 111)) := ((Below.refl _ _).alloc (Nat.le_refl _) _).alloc (by simp) _
  have q1 := Rw.new (w.alloc (.cells #[.int .i64 k, .int .i64 a, .int .i64 b, .int .i64 c] 36)) 111 #[.int .i64 0, .int .i64 0, .int .i64 0, .nilFunc, .nilFunc]
  simp only [World.size_alloc] at q1
  by_cases h1 : k < 1
  · go_enter Tryd.func71, Tryd.ntmps71
    go_wp2_with fail
    exact bodyPost_ret (v := .tuple #[opZ, .bool false]) (by simp [results, Tryd.results71, go_sem, *]) rfl ⟨rfl, b1⟩
  · have d1 : decide (k < 1) = false := decide_eq_false h1
    have h2 : 6 < k := by omega
    go_enter Tryd.func71, Tryd.ntmps71
    go_wp2_with fail
    exact bodyPost_ret (v := .tuple #[opZ, .bool false]) (by simp [results, Tryd.results71, go_sem, *]) rfl ⟨rfl, b1⟩
set_option maxHeartbeats 4000000 in
theorem operationOf_walk (k x y z : Int) (f g : Nat) (a b c : Int) (w : World) (h1 : 1 ≤ k) (h6 : k ≤ 6) (hix : ∀ w, (Instr.index 143 opsV (.int .i64 k)).run Tryd.prog w = .ok (opA x y z f g) w) :
    Calls Tryd.prog 71 #[cmV ⟨k, a, b, c⟩] w fun e w' => e = .returned (.tuple #[opA x y z f g, .bool (Hps.inR a 0 x && Hps.inR b 0 y && Hps.inR c 0 z)]) ∧ Below w.heap.size w w' := by
  have HIX := Lib.hid hix
  obtain ⟨r, hr⟩ : ∃ r, (Hps.inR a 0 x && Hps.inR b 0 y && Hps.inR c 0 z) = r := ⟨_, rfl⟩
  rw [hr]
  have HR := Lib.hid hr
  have d1 : decide (k < 1) = false := decide_eq_false (by omega)
  have d2 : decide (6 < k) = false := decide_eq_false (by omega)
  clear h1 h6 hix hr
  have B2 : Below w.heap.size w ((w.alloc (.cells #[.int .i64 k, .int .i64 a, .int .i64 b, .int .i64 c] 36)).alloc (.cells #[.int .i64 0, .int .i64 0, .int .i64 0, .nilFunc, .nilFunc] 111)) := ((Below.refl _ _).alloc (Nat.le_refl _) _).alloc (by simp) _
  have Q1 := (Rw.new w 36 #[.int .i64 k, .int .i64 a, .int .i64 b, .int .i64 c]).alloc (.cells #[.int .i64 0, .int .i64 0, .int .i64 0, .nilFunc, .nilFunc] 111)
  have Q2 := Rw.new (w.alloc (.cells #[.int .i64 k, .int .i64 a, .int .i64 b, .int .i64 c] 36)) 111 #[.int .i64 0, .int .i64 0, .int .i64 0, .nilFunc, .nilFunc]
  simp only [World.size_alloc] at Q2
  go_enter Tryd.func71, Tryd.ntmps71
  go_upto_region 3 with fail
  generalize ((w.alloc (.cells #[.int .i64 k, .int .i64 a, .int .i64 b, .int .i64 c] 36)).alloc (.cells #[.int .i64 0, .int .i64 0, .int .i64 0, .nilFunc, .nilFunc] 111)) = w2 at B2 Q1 Q2 ⊢
  have hz := Q2.lt
  refine wp_region_inv (by kernel_rfl) (by kernel_rfl) (fun L ac ww => ∃ t4 t14 t15 t16 t17 : Value, ac = { tmps := #[cmV { op := k, a := a, b := b, c := c }, Value.pointer (some { block := w.heap.size, off := 0 }), Value.pointer (some { block := w.heap.size + 1, off := 0 }), Value.bool false, t4, Value.pointer (some { block := w.heap.size, off := 0 }), Value.int IntKind.i64 k, Value.bool false, Value.bool false, Value.pointer (some { block := w.heap.size, off := 0 }), Value.int IntKind.i64 k, Value.bool false, Value.bool false, undef, t14, t15, t16, t17, undef, undef, undef, undef], defers := [] } ∧ (Below w2.heap.size w2 ww) ∧ (L 0 = true → t14 = opsV) ∧ (L 1 = true → t15 = .pointer (some ⟨w.heap.size, 0, none⟩)) ∧ (L 2 = true → t16 = .int .i64 k) ∧ (L 3 = true → t17 = opA x y z f g) ∧ (L 4 = true → ∃ g4, t4 = .pointer (some ⟨g4, 0, none⟩) ∧ w2.heap.size ≤ g4 ∧ ∃ cs, Rw ww g4 111 cs ∧ cs = (if L 5 = true then #[.int .i64 x, .int .i64 y, .int .i64 z, .func (.func f) #[] #[], .func (.func g) #[] #[]] else #[.int .i64 0, .int .i64 0, .int .i64 0, .nilFunc, .nilFunc])) ∧ (L 5 = true → L 4 = true ∧ True)) ?h0 ?hstep ?hdone
  case h0 => exact ⟨_, _, _, _, _, rfl, (Below.refl _ _).drew, (fun h => absurd h Bool.false_ne_true), (fun h => absurd h Bool.false_ne_true), (fun h => absurd h Bool.false_ne_true), (fun h => absurd h Bool.false_ne_true), (fun h => absurd h Bool.false_ne_true), (fun h => absurd h Bool.false_ne_true)⟩
  case hstep =>
    rintro L ac ww i o ho hL hd ⟨t4, t14, t15, t16, t17, rfl, I0, f0, f1, f2, f3, f4, f5⟩
    have hi : i < 6 := (Array.getElem?_eq_some_iff.1 ho).1
    obtain rfl | rfl | rfl | rfl | rfl | rfl : i = 0 ∨ i = 1 ∨ i = 2 ∨ i = 3 ∨ i = 4 ∨ i = 5 := by omega
    · obtain rfl := Option.some.inj ho
      refine wpOp_step rfl (fun K' hK => ?_)
      go_simp
      refine (operations_any ww).mono ?_
      rintro e w' ⟨rfl, b5⟩
      refine hK _ _ ?_
      exact ⟨_, _, _, _, _, rfl, (I0.trans (b5.mono I0.size)), (fun _ => rfl), (kp f1), (kp f2), (kp f3), (fun h => by
        obtain ⟨g4, e4, h4, cs, h5, h6⟩ := f4 (upd_ne h (by decide))
        exact ⟨g4, e4, h4, cs, h5.keep b5 h5.lt, by rw [h6, upd_other (by decide)]⟩), (fun h => ⟨by first | exact upd_self | (rw [upd_other (by decide)]; exact (f5 (upd_ne h (by decide))).1), trivial⟩)⟩
    · obtain rfl := Option.some.inj ho
      refine wpOp_step rfl (fun K' hK => ?_)
      go_simp
      refine hK _ _ ?_
      exact ⟨_, _, _, _, _, rfl, (I0), (kp f0), (fun _ => rfl), (kp f2), (kp f3), (fun h => by
        obtain ⟨g4, e4, h4, cs, h5, h6⟩ := f4 (upd_ne h (by decide))
        exact ⟨g4, e4, h4, cs, h5, by rw [h6, upd_other (by decide)]⟩), (fun h => ⟨by first | exact upd_self | (rw [upd_other (by decide)]; exact (f5 (upd_ne h (by decide))).1), trivial⟩)⟩
    · obtain rfl := Option.some.inj ho
      have g1 := f1 (hd ⟨1, .data⟩ (by simp) rfl)
      subst g1
      have z0 : ww.cell? ⟨w.heap.size, 0, none⟩ = some (.int .i64 k) := (I0.cell (p := ⟨w.heap.size, 0, none⟩) (by show w.heap.size < w2.heap.size; omega)).trans (Q1.cell 0)
      refine wpOp_step rfl (fun K' hK => ?_)
      go_simp
      refine hK _ _ ?_
      exact ⟨_, _, _, _, _, rfl, (I0), (kp f0), (kp f1), (fun _ => rfl), (kp f3), (fun h => by
        obtain ⟨g4, e4, h4, cs, h5, h6⟩ := f4 (upd_ne h (by decide))
        exact ⟨g4, e4, h4, cs, h5, by rw [h6, upd_other (by decide)]⟩), (fun h => ⟨by first | exact upd_self | (rw [upd_other (by decide)]; exact (f5 (upd_ne h (by decide))).1), trivial⟩)⟩
    · obtain rfl := Option.some.inj ho
      have g0 := f0 (hd ⟨0, .data⟩ (by simp) rfl)
      have g2 := f2 (hd ⟨2, .data⟩ (by simp) rfl)
      subst g0
      subst g2
      have hix := HIX.out ww
      refine wpOp_step rfl (fun K' hK => ?_)
      go_simp
      refine hK _ _ ?_
      exact ⟨_, _, _, _, _, rfl, (I0), (kp f0), (kp f1), (kp f2), (fun _ => rfl), (fun h => by
        obtain ⟨g4, e4, h4, cs, h5, h6⟩ := f4 (upd_ne h (by decide))
        exact ⟨g4, e4, h4, cs, h5, by rw [h6, upd_other (by decide)]⟩), (fun h => ⟨by first | exact upd_self | (rw [upd_other (by decide)]; exact (f5 (upd_ne h (by decide))).1), trivial⟩)⟩
    · obtain rfl := Option.some.inj ho
      have hL5 : L 5 = false := by
        cases e : L 5
        · rfl
        · exact absurd (f5 e).1 (by rw [hL]; decide)
      refine wpOp_step rfl (fun K' hK => ?_)
      go_simp
      refine hK _ _ ?_
      exact ⟨_, _, _, _, _, rfl, (I0.alloc I0.size _), (kp f0), (kp f1), (kp f2), (kp f3), (fun _ => ⟨_, rfl, I0.size, _, Rw.new _ _ _, by rw [upd_other (by decide), hL5, if_neg (by decide)]⟩), (fun h => ⟨by first | exact upd_self | (rw [upd_other (by decide)]; exact (f5 (upd_ne h (by decide))).1), trivial⟩)⟩
    · obtain rfl := Option.some.inj ho
      have g3 := f3 (hd ⟨3, .data⟩ (by simp) rfl)
      have g4 := f4 (hd ⟨4, .data⟩ (by simp) rfl)
      subst g3
      obtain ⟨g4, e4, h4, cs, h5, h6⟩ := g4
      rw [hL, if_neg (by decide)] at h6
      subst h6
      subst e4
      have l4 := hd ⟨4, .data⟩ (by simp) rfl
      have c0 := h5.cell 0
      have c1 := h5.cell 1
      have c2 := h5.cell 2
      have c3 := h5.cell 3
      have c4 := h5.cell 4
      have fz0 := h5.frozen 0
      have fz1 := h5.frozen 1
      have fz2 := h5.frozen 2
      have fz3 := h5.frozen 3
      have fz4 := h5.frozen 4
      simp only [List.getElem?_toArray, List.getElem?_cons_zero, List.getElem?_cons_succ] at c0 c1 c2 c3 c4
      have hput := ((((h5.put 0 (.int .i64 x)).put 1 (.int .i64 y)).put 2 (.int .i64 z)).put 3 (.func (.func f) #[] #[])).put 4 (.func (.func g) #[] #[])
      have hbel := ((((I0.setCell (p := ⟨g4, 0, none⟩) (by show w2.heap.size ≤ g4; omega) (.int .i64 x)).setCell (p := ⟨g4, 1, none⟩) (by show w2.heap.size ≤ g4; omega) (.int .i64 y)).setCell (p := ⟨g4, 2, none⟩) (by show w2.heap.size ≤ g4; omega) (.int .i64 z)).setCell (p := ⟨g4, 3, none⟩) (by show w2.heap.size ≤ g4; omega) (.func (.func f) #[] #[])).setCell (p := ⟨g4, 4, none⟩) (by show w2.heap.size ≤ g4; omega) (.func (.func g) #[] #[])
      refine wpOp_step rfl (fun K' hK => ?_)
      go_simp
      refine hK _ _ ?_
      exact ⟨_, _, _, _, _, rfl, (hbel), (kp f0), (kp f1), (kp f2), (kp f3), (fun _ => ⟨g4, rfl, h4, _, hput, by rw [upd_self, if_pos rfl]; rfl⟩), (fun _ => ⟨by rw [upd_other (by decide)]; exact l4, trivial⟩)⟩
  case hdone =>
    rintro L ac ww hall ⟨t4, t14, t15, t16, t17, rfl, I0, f0, f1, f2, f3, f4, f5⟩
    have e0 := f0 (hall 0 (by decide))
    have e1 := f1 (hall 1 (by decide))
    have e2 := f2 (hall 2 (by decide))
    have e3 := f3 (hall 3 (by decide))
    have e4 := f4 (hall 4 (by decide))
    have e5 := f5 (hall 5 (by decide))
    clear f0 f1 f2 f3 f4 f5
    obtain ⟨g4, rfl, hg4, cs, R4, e6⟩ := e4
    rw [hall 5 (by decide), if_pos rfl] at e6
    subst e6
    subst e0 e1 e2 e3
    clear e5 hall
    replace B2 := B2.trans (I0.mono B2.size)
    replace Q1 := Q1.keep I0 Q1.lt
    replace Q2 := Q2.keep I0 Q2.lt
    clear I0
    go_upto_region 4 with fail
    have hne : g4 ≠ w.heap.size + 1 := by omega
    refine wp_region_inv (by kernel_rfl) (by kernel_rfl) (fun L ac wv => ∃ t3 t18 t19 t20 t21 : Value, ac = { tmps := #[cmV { op := k, a := a, b := b, c := c }, Value.pointer (some { block := w.heap.size, off := 0 }), Value.pointer (some { block := w.heap.size + 1, off := 0 }), t3, Value.pointer (some { block := g4, off := 0 }), Value.pointer (some { block := w.heap.size, off := 0 }), Value.int IntKind.i64 k, Value.bool false, Value.bool false, Value.pointer (some { block := w.heap.size, off := 0 }), Value.int IntKind.i64 k, Value.bool false, Value.bool false, undef, opsV, Value.pointer (some { block := w.heap.size, off := 0 }), Value.int IntKind.i64 k, opA x y z f g, t18, t19, t20, t21], defers := [] } ∧ (Below w.heap.size w wv) ∧ (Rw wv g4 111 #[.int .i64 x, .int .i64 y, .int .i64 z, .func (.func f) #[] #[], .func (.func g) #[] #[]]) ∧ (Rw wv w.heap.size 36 #[.int .i64 k, .int .i64 a, .int .i64 b, .int .i64 c]) ∧ (Rw wv (w.heap.size + 1) 111 (if L 4 = true then #[.int .i64 x, .int .i64 y, .int .i64 z, .func (.func f) #[] #[], .func (.func g) #[] #[]] else #[.int .i64 0, .int .i64 0, .int .i64 0, .nilFunc, .nilFunc])) ∧ (L 0 = true → t18 = opA x y z f g) ∧ (L 1 = true → t19 = opA x y z f g) ∧ (L 2 = true → t20 = cmV ⟨k, a, b, c⟩) ∧ (L 3 = true → t21 = .bool r) ∧ (L 4 = true → True) ∧ (L 5 = true → t3 = .bool r)) ?h0 ?hstep ?hdone
    case h0 => exact ⟨_, _, _, _, _, rfl, B2.drew, (R4.keep (Below.refl _ _).drew R4.lt), (Q1.keep (Below.refl _ _).drew Q1.lt), by rw [if_neg (by decide)]; exact Q2.keep (Below.refl _ _).drew Q2.lt, (fun h => absurd h Bool.false_ne_true), (fun h => absurd h Bool.false_ne_true), (fun h => absurd h Bool.false_ne_true), (fun h => absurd h Bool.false_ne_true), (fun h => absurd h Bool.false_ne_true), (fun h => absurd h Bool.false_ne_true)⟩
    case hstep =>
      rintro L ac wv i o ho hL hd ⟨t3, t18, t19, t20, t21, rfl, I0, I1, I2, I3, f0, f1, f2, f3, f4, f5⟩
      have hi : i < 6 := (Array.getElem?_eq_some_iff.1 ho).1
      obtain rfl | rfl | rfl | rfl | rfl | rfl : i = 0 ∨ i = 1 ∨ i = 2 ∨ i = 3 ∨ i = 4 ∨ i = 5 := by omega
      · obtain rfl := Option.some.inj ho
        have I10_ := I1.cell 0
        have I11_ := I1.cell 1
        have I12_ := I1.cell 2
        have I13_ := I1.cell 3
        have I14_ := I1.cell 4
        simp only [List.getElem?_toArray, List.getElem?_cons_zero, List.getElem?_cons_succ] at I10_ I11_ I12_ I13_ I14_
        refine wpOp_step rfl (fun K' hK => ?_)
        go_simp
        refine hK _ _ ?_
        exact ⟨_, _, _, _, _, rfl, (I0), (I1), (I2), (by rw [upd_other (by decide)]; exact I3), (fun _ => rfl), (kp f1), (kp f2), (kp f3), (kp f4), (kp f5)⟩
      · obtain rfl := Option.some.inj ho
        have I10_ := I1.cell 0
        have I11_ := I1.cell 1
        have I12_ := I1.cell 2
        have I13_ := I1.cell 3
        have I14_ := I1.cell 4
        simp only [List.getElem?_toArray, List.getElem?_cons_zero, List.getElem?_cons_succ] at I10_ I11_ I12_ I13_ I14_
        refine wpOp_step rfl (fun K' hK => ?_)
        go_simp
        refine hK _ _ ?_
        exact ⟨_, _, _, _, _, rfl, (I0), (I1), (I2), (by rw [upd_other (by decide)]; exact I3), (kp f0), (fun _ => rfl), (kp f2), (kp f3), (kp f4), (kp f5)⟩
      · obtain rfl := Option.some.inj ho
        have I20_ := I2.cell 0
        have I21_ := I2.cell 1
        have I22_ := I2.cell 2
        have I23_ := I2.cell 3
        simp only [List.getElem?_toArray, List.getElem?_cons_zero, List.getElem?_cons_succ] at I20_ I21_ I22_ I23_
        refine wpOp_step rfl (fun K' hK => ?_)
        go_simp
        refine hK _ _ ?_
        exact ⟨_, _, _, _, _, rfl, (I0), (I1), (I2), (by rw [upd_other (by decide)]; exact I3), (kp f0), (kp f1), (fun _ => rfl), (kp f3), (kp f4), (kp f5)⟩
      · obtain rfl := Option.some.inj ho
        have g1 := f1 (hd ⟨1, .data⟩ (by simp) rfl)
        have g2 := f2 (hd ⟨2, .data⟩ (by simp) rfl)
        subst g1
        subst g2
        refine wpOp_step rfl (fun K' hK => ?_)
        go_simp
        refine (takes_any f g x y z ⟨k, a, b, c⟩ wv).mono ?_
        simp only [HR.out]
        rintro e w' ⟨rfl, b5⟩
        refine hK _ _ ?_
        exact ⟨_, _, _, _, _, rfl, (I0.trans (b5.mono I0.size)), (I1.keep b5 I1.lt), (I2.keep b5 I2.lt), (by rw [upd_other (by decide)]; exact I3.keep b5 I3.lt), (kp f0), (kp f1), (kp f2), (fun _ => rfl), (kp f4), (kp f5)⟩
      · obtain rfl := Option.some.inj ho
        have g0 := f0 (hd ⟨0, .data⟩ (by simp) rfl)
        subst g0
        rw [hL, if_neg (by decide)] at I3
        have P0 := I3
        have P00_ := P0.cell 0
        have P01_ := P0.cell 1
        have P02_ := P0.cell 2
        have P03_ := P0.cell 3
        have P04_ := P0.cell 4
        simp only [List.getElem?_toArray, List.getElem?_cons_zero, List.getElem?_cons_succ] at P00_ P01_ P02_ P03_ P04_
        have fz0 := P0.frozen 0
        have fz1 := P0.frozen 1
        have fz2 := P0.frozen 2
        have fz3 := P0.frozen 3
        have fz4 := P0.frozen 4
        refine wpOp_step rfl (fun K' hK => ?_)
        go_simp
        refine hK _ _ ?_
        exact ⟨_, _, _, _, _, rfl, ((((((I0.setCell (p := ⟨w.heap.size + 1, 0, none⟩) (by show w.heap.size ≤ w.heap.size + 1; omega) (.int .i64 x)).setCell (p := ⟨w.heap.size + 1, 1, none⟩) (by show w.heap.size ≤ w.heap.size + 1; omega) (.int .i64 y)).setCell (p := ⟨w.heap.size + 1, 2, none⟩) (by show w.heap.size ≤ w.heap.size + 1; omega) (.int .i64 z)).setCell (p := ⟨w.heap.size + 1, 3, none⟩) (by show w.heap.size ≤ w.heap.size + 1; omega) (.func (.func f) #[] #[])).setCell (p := ⟨w.heap.size + 1, 4, none⟩) (by show w.heap.size ≤ w.heap.size + 1; omega) (.func (.func g) #[] #[]))), ((((((I1.other hne (.int .i64 x)).other hne (.int .i64 y)).other hne (.int .i64 z)).other hne (.func (.func f) #[] #[])).other hne (.func (.func g) #[] #[]))), ((((((I2.other (by omega) (.int .i64 x)).other (by omega) (.int .i64 y)).other (by omega) (.int .i64 z)).other (by omega) (.func (.func f) #[] #[])).other (by omega) (.func (.func g) #[] #[]))), (by rw [upd_self, if_pos rfl]; exact (((((P0.put 0 (.int .i64 x)).put 1 (.int .i64 y)).put 2 (.int .i64 z)).put 3 (.func (.func f) #[] #[])).put 4 (.func (.func g) #[] #[]))), (kp f0), (kp f1), (kp f2), (kp f3), (fun _ => trivial), (kp f5)⟩
      · obtain rfl := Option.some.inj ho
        have g3 := f3 (hd ⟨3, .data⟩ (by simp) rfl)
        subst g3
        refine wpOp_step rfl (fun K' hK => ?_)
        go_simp
        refine hK _ _ ?_
        exact ⟨_, _, _, _, _, rfl, (I0), (I1), (I2), (by rw [upd_other (by decide)]; exact I3), (kp f0), (kp f1), (kp f2), (kp f3), (kp f4), (fun _ => rfl)⟩
    case hdone =>
      rintro L ac wv hall ⟨t3, t18, t19, t20, t21, rfl, I0, I1, I2, I3, f0, f1, f2, f3, f4, f5⟩
      have e0 := f0 (hall 0 (by decide))
      have e1 := f1 (hall 1 (by decide))
      have e2 := f2 (hall 2 (by decide))
      have e3 := f3 (hall 3 (by decide))
      have e4 := f4 (hall 4 (by decide))
      have e5 := f5 (hall 5 (by decide))
      clear f0 f1 f2 f3 f4 f5
      rw [hall 4 (by decide), if_pos rfl] at I3
      subst e0 e1 e2 e3 e5
      clear e4 hall I1 I2 R4 Q1 Q2 B2
      have I30_ := I3.cell 0
      have I31_ := I3.cell 1
      have I32_ := I3.cell 2
      have I33_ := I3.cell 3
      have I34_ := I3.cell 4
      simp only [List.getElem?_toArray, List.getElem?_cons_zero, List.getElem?_cons_succ] at I30_ I31_ I32_ I33_ I34_
      go_wp2_with fail
      exact bodyPost_ret (v := .tuple #[opA x y z f g, .bool r]) (by simp [results, Tryd.results71, go_sem, *]) rfl ⟨rfl, I0⟩
theorem Hps.inR_zero {n : Int} : Hps.inR n 0 0 = decide (n = 0) := by
  unfold Hps.inR
  rw [← Bool.decide_and, decide_eq_decide]
  omega
theorem operationOf_1 (a b c : Int) (w : World) : Calls Tryd.prog 71 #[cmV ⟨1, a, b, c⟩] w fun e w' => e = .returned (.tuple #[op1, .bool (Hps.okCm ⟨1, a, b, c⟩)]) ∧ Below w.heap.size w w' := by
  have := operationOf_walk 1 3 3 99 _ _ a b c w (by omega) (by omega) run_op1
  rw [show Hps.okCm ⟨1, a, b, c⟩ = (Hps.inR a 0 3 && Hps.inR b 0 3 && Hps.inR c 0 99) by simp [Hps.okCm]]
  exact this
theorem operationOf_2 (a b c : Int) (w : World) : Calls Tryd.prog 71 #[cmV ⟨2, a, b, c⟩] w fun e w' => e = .returned (.tuple #[op2, .bool (Hps.okCm ⟨2, a, b, c⟩)]) ∧ Below w.heap.size w w' := by
  have := operationOf_walk 2 3 3 2 _ _ a b c w (by omega) (by omega) run_op2
  rw [show Hps.okCm ⟨2, a, b, c⟩ = (Hps.inR a 0 3 && Hps.inR b 0 3 && Hps.inR c 0 2) by simp [Hps.okCm]]
  exact this
theorem operationOf_3 (a b c : Int) (w : World) : Calls Tryd.prog 71 #[cmV ⟨3, a, b, c⟩] w fun e w' => e = .returned (.tuple #[op3, .bool (Hps.okCm ⟨3, a, b, c⟩)]) ∧ Below w.heap.size w w' := by
  have := operationOf_walk 3 3 3 2 _ _ a b c w (by omega) (by omega) run_op3
  rw [show Hps.okCm ⟨3, a, b, c⟩ = (Hps.inR a 0 3 && Hps.inR b 0 3 && Hps.inR c 0 2) by simp [Hps.okCm]]
  exact this
theorem operationOf_4 (a b c : Int) (w : World) : Calls Tryd.prog 71 #[cmV ⟨4, a, b, c⟩] w fun e w' => e = .returned (.tuple #[op4, .bool (Hps.okCm ⟨4, a, b, c⟩)]) ∧ Below w.heap.size w w' := by
  have := operationOf_walk 4 3 3 0 _ _ a b c w (by omega) (by omega) run_op4
  rw [show Hps.okCm ⟨4, a, b, c⟩ = (Hps.inR a 0 3 && Hps.inR b 0 3 && Hps.inR c 0 0) by simp [Hps.okCm, Hps.inR_zero]]
  exact this
theorem operationOf_5 (a b c : Int) (w : World) : Calls Tryd.prog 71 #[cmV ⟨5, a, b, c⟩] w fun e w' => e = .returned (.tuple #[op5, .bool (Hps.okCm ⟨5, a, b, c⟩)]) ∧ Below w.heap.size w w' := by
  have := operationOf_walk 5 3 0 0 _ _ a b c w (by omega) (by omega) run_op5
  rw [show Hps.okCm ⟨5, a, b, c⟩ = (Hps.inR a 0 3 && Hps.inR b 0 0 && Hps.inR c 0 0) by simp [Hps.okCm, Hps.inR_zero]]
  exact this
theorem operationOf_6 (a b c : Int) (w : World) : Calls Tryd.prog 71 #[cmV ⟨6, a, b, c⟩] w fun e w' => e = .returned (.tuple #[op6, .bool (Hps.okCm ⟨6, a, b, c⟩)]) ∧ Below w.heap.size w w' := by
  have := operationOf_walk 6 3 99 0 _ _ a b c w (by omega) (by omega) run_op6
  rw [show Hps.okCm ⟨6, a, b, c⟩ = (Hps.inR a 0 3 && Hps.inR b 0 99 && Hps.inR c 0 0) by simp [Hps.okCm, Hps.inR_zero]]
  exact this
theorem Hps.okCm_none {o : Cm} (h : o.op < 1 ∨ 6 < o.op) : Hps.okCm o = false := by
  cases e : Hps.okCm o
  · rfl
  · have := Hps.okCm_op e
    omega
/-- the operation of whatever instruction -/
theorem operationOf_any (o : Cm) (w : World) : Calls Tryd.prog 71 #[cmV o] w fun e w' => (∃ p, e = .returned (.tuple #[p, .bool (Hps.okCm o)]) ∧ (p = opZ ∨ ∃ x y z f g, p = opA x y z f g)) ∧ Below w.heap.size w w' := by
  obtain ⟨op, a, b, c⟩ := o
  by_cases h : op < 1 ∨ 6 < op
  · refine (operationOf_bad ⟨op, a, b, c⟩ w h).mono ?_
    rintro e w1 ⟨rfl, b1⟩
    exact ⟨⟨_, by rw [Hps.okCm_none (o := ⟨op, a, b, c⟩) h], .inl rfl⟩, b1⟩
  · obtain rfl | rfl | rfl | rfl | rfl | rfl : op = 1 ∨ op = 2 ∨ op = 3 ∨ op = 4 ∨ op = 5 ∨ op = 6 := by omega
    · exact (operationOf_1 a b c w).mono fun _ _ h => ⟨⟨_, h.1, .inr ⟨_, _, _, _, _, rfl⟩⟩, h.2⟩
    · exact (operationOf_2 a b c w).mono fun _ _ h => ⟨⟨_, h.1, .inr ⟨_, _, _, _, _, rfl⟩⟩, h.2⟩
    · exact (operationOf_3 a b c w).mono fun _ _ h => ⟨⟨_, h.1, .inr ⟨_, _, _, _, _, rfl⟩⟩, h.2⟩
    · exact (operationOf_4 a b c w).mono fun _ _ h => ⟨⟨_, h.1, .inr ⟨_, _, _, _, _, rfl⟩⟩, h.2⟩
    · exact (operationOf_5 a b c w).mono fun _ _ h => ⟨⟨_, h.1, .inr ⟨_, _, _, _, _, rfl⟩⟩, h.2⟩
    · exact (operationOf_6 a b c w).mono fun _ _ h => ⟨⟨_, h.1, .inr ⟨_, _, _, _, _, rfl⟩⟩, h.2⟩
set_option maxHeartbeats 1000000 in
theorem commandValid_any (o : Cm) (w : World) : Calls Tryd.prog 58 #[cmV o] w fun e w' => e = .returned (.bool (Hps.okCm o)) ∧ Below w.heap.size w w' := by
  have b1 : Below w.heap.size w (w.alloc (.cells #[.int .i64 o.op, .int .i64 o.a, .int .i64 o.b, .int .i64 o.c] 36)) := (Below.refl _ _).alloc (Nat.le_refl _) _
  obtain ⟨r, hr⟩ : ∃ r, Hps.okCm o = r := ⟨_, rfl⟩
  go_enter Tryd.func58, Tryd.ntmps58
  go_wp2_with fail
  refine (operationOf_any o _).mono ?_
  rw [hr]
  have HR := Lib.hid hr
  clear hr
  rintro e w1 ⟨⟨p, rfl, hp⟩, b2⟩
  have b3 := b1.trans (b2.mono b1.size)
  have hs := b3.size
  clear b1 b2
  rcases hp with rfl | ⟨x, y, z, f, g, rfl⟩
  · go_wp2_with fail
    go_ret
    exact ⟨by rw [HR.out]; rfl, b3.alloc hs _⟩
  · go_wp2_with fail
    go_ret
    exact ⟨by rw [HR.out]; rfl, b3.alloc hs _⟩
end Go.Proofs.YtfgdenmlfloloaaDoor

namespace Go.Proofs.YtfgdenmlfloloaaDoor
open Go.RowKit
set_option maxRecDepth 100000
theorem okRef_form {cs : List Cl} {x : Int} (h : Hps.okRef cs x = true) : x = -1 ∨ ∃ y : Nat, x = y ∧ y < cs.length := by
  by_cases h0 : 0 ≤ x
  · obtain ⟨y, e, hy, _⟩ := Hps.okRef_nat h h0
    exact .inr ⟨y, e, hy⟩
  · have := Hps.okRef_lo h
    have hlo : -1 ≤ x := by
      rcases Hps.okRef_iff.1 h with e | e
      · omega
      · omega
    exact .inl (by omega)
set_option maxHeartbeats 1000000 in
theorem hasRef_any (A R : Option Addr) (n c m d : Nat) (h : Hp) (k : Nat) (p x : Int) (w : World) (hs : HS w w.heap.size A n R m h) (_hn : n ≤ 1099511627776) (hx : h.rt[k]? = some x) (ho : Hps.okRef h.cs x = true) :
    Calls Tryd.prog 141 #[heapV A n c R m d, .int .i64 k, .int .i64 p] w fun e w' => e = .returned (.bool (Hps.placeH h.cs x p)) ∧ Below w.heap.size w w' := by
  have hlc := hs.cells.1
  have hlr := hs.roots.1
  have bb : Below w.heap.size w (w.alloc (.cells #[.slice A n c, .slice R m d] 26)) := (Below.refl _ _).alloc (Nat.le_refl _) _
  have hkm : k < m := by have := (List.getElem?_eq_some_iff.1 hx).1; omega
  obtain ⟨g, og, x', rfl, hg, hx', d1⟩ := (hs.roots.below bb).at_ (k := k) hkm
  rw [hx] at hx'
  obtain rfl := Option.some.inj hx'
  have hkm' : (k : Int) < m := by omega
  rcases okRef_form ho with rfl | ⟨y, rfl, hy⟩
  · have HP := Lib.hid (show Hps.placeH h.cs (-1) p = false by simp [Hps.placeH])
    clear hx hx' ho
    go_enter Tryd.func141, Tryd.ntmps141
    go_wp2_with fail
    go_ret
    exact ⟨by rw [HP.out]; rfl, bb⟩
  · obtain ⟨g2, o2, cl, A', m', cc, rfl, hg2, hcl, e1, e2, e3, hmc, hi⟩ := (hs.cells.below bb).at_ (k := y) (by omega)
    have hyn : (y : Int) < n := by omega
    have hne : ((y : Int) != -1) = true := by rw [bne_iff_ne]; omega
    have HP := Lib.hid (show Hps.placeH h.cs (y : Int) p = decide (p < (m' : Int)) by
      simp [Hps.placeH, hcl, hi.1])
    clear ho hcl hy e1 e2 hi hx hx'
    go_enter Tryd.func141, Tryd.ntmps141
    go_wp2_with fail
    go_ret
    exact ⟨by rw [HP.out]; rfl, bb⟩
/-- a function with a body is entered -/
theorem run_entered {f : Nat} {fn : Func} (hf : Tryd.prog.funcs[f]? = some fn) (hn : (fn.name == "runtime.NumGoroutine") = false) (hb : fn.body.isNone = false) (args : Array Value) (w : World) : (callFunc f args).run Tryd.prog w = .ok (.enter f args) w := by
  unfold callFunc
  simp only [Sem.run_bind, run_program, Result.andThen_ok, hf, hn, hb, Bool.false_eq_true, if_false]
  rfl
/-- what CommandPossible asks of the function in the table -/
def PossF (f : Nat) (o : Cm) (h : Hp) : Prop := ∀ (A R : Option Addr) (n c m d : Nat) (w : World), HS w w.heap.size A n R m h → n ≤ 1099511627776 → m ≤ 1099511627776 → n ≤ c → m ≤ d →
  Calls Tryd.prog f #[cmV o, heapV A n c R m d] w fun e w' => e = .returned (.bool (Hps.canH h o)) ∧ Below w.heap.size w w'
theorem poss_always {o : Cm} {h : Hp} (hc : Hps.canH h o = true) : PossF 126 o h := by
  intro A R n c m d w _ _ _ _ _
  rw [hc]
  have bb : Below w.heap.size w ((w.alloc (.cells #[.int .i64 o.op, .int .i64 o.a, .int .i64 o.b, .int .i64 o.c] 36)).alloc (.cells #[.slice A n c, .slice R m d] 26)) := ((Below.refl _ _).alloc (Nat.le_refl _) _).alloc (by simp) _
  go_enter Tryd.func126, Tryd.ntmps126
  go_wp2_with fail
  go_ret
  exact ⟨rfl, bb⟩
set_option maxHeartbeats 1000000 in
theorem poss_get {o : Cm} {h : Hp} (hv : Hps.validH h = true) (ho : Hps.okCm o = true) (e2 : o.op = 2) : PossF 128 o h := by
  intro A R n c m d w hs hn hm hc hd
  have R0 := Lib.hid (Hps.canH_get hv ho e2)
  obtain ⟨_, ⟨hb1, hb2⟩, _⟩ := (Hps.okCm_get (.inl e2)).1 ho
  obtain ⟨b, hbn⟩ := Int.eq_ofNat_of_zero_le hb1
  have hr4 := (Hps.valid_iff.1 hv).2.2.1
  have hx := List.getElem?_eq_getElem (show b < h.rt.length by omega)
  generalize h.rt[b]'(by omega) = x at hx
  have HRt := Lib.hid (Hps.rootAt_nat hx)
  have ok := Hps.valid_root hv hx
  obtain ⟨op, a, b', cc⟩ := o
  simp only at hbn
  subst hbn
  have bb : Below w.heap.size w ((w.alloc (.cells #[.int .i64 op, .int .i64 a, .int .i64 b, .int .i64 cc] 36)).alloc (.cells #[.slice A n c, .slice R m d] 26)) := ((Below.refl _ _).alloc (Nat.le_refl _) _).alloc (by simp) _
  have s2 := hs.up bb
  clear hb1 hb2 e2 ho hr4
  go_enter Tryd.func128, Tryd.ntmps128
  go_wp2_with fail
  refine (hasRef_any _ _ _ _ _ _ h b cc x _ s2 hn hx ok).mono ?_
  rintro e w1 ⟨rfl, b1⟩
  have b3 := bb.trans (b1.mono bb.size)
  go_wp2_with fail
  go_ret
  exact ⟨by rw [R0.out]; simp only [HRt.out]; rfl, b3⟩
set_option maxHeartbeats 1000000 in
theorem poss_set {o : Cm} {h : Hp} (hv : Hps.validH h = true) (ho : Hps.okCm o = true) (e2 : o.op = 3) : PossF 130 o h := by
  intro A R n c m d w hs hn hm hc hd
  have R0 := Lib.hid (Hps.canH_set hv ho e2)
  obtain ⟨hb1, hb2⟩ := Hps.okCm_a ho
  obtain ⟨b, hbn⟩ := Int.eq_ofNat_of_zero_le hb1
  have hr4 := (Hps.valid_iff.1 hv).2.2.1
  have hx := List.getElem?_eq_getElem (show b < h.rt.length by omega)
  generalize h.rt[b]'(by omega) = x at hx
  have HRt := Lib.hid (Hps.rootAt_nat hx)
  have ok := Hps.valid_root hv hx
  obtain ⟨op, a, b', cc⟩ := o
  simp only at hbn
  subst hbn
  have bb : Below w.heap.size w ((w.alloc (.cells #[.int .i64 op, .int .i64 b, .int .i64 b', .int .i64 cc] 36)).alloc (.cells #[.slice A n c, .slice R m d] 26)) := ((Below.refl _ _).alloc (Nat.le_refl _) _).alloc (by simp) _
  have s2 := hs.up bb
  clear hb1 hb2 e2 ho hr4
  go_enter Tryd.func130, Tryd.ntmps130
  go_wp2_with fail
  refine (hasRef_any _ _ _ _ _ _ h b cc x _ s2 hn hx ok).mono ?_
  rintro e w1 ⟨rfl, b1⟩
  have b3 := bb.trans (b1.mono bb.size)
  go_wp2_with fail
  go_ret
  exact ⟨by rw [R0.out]; simp only [HRt.out]; rfl, b3⟩
set_option maxHeartbeats 1000000 in
theorem poss_data {o : Cm} {h : Hp} (hv : Hps.validH h = true) (ho : Hps.okCm o = true) (e2 : o.op = 6) : PossF 134 o h := by
  intro A R n c m d w hs hn hm hc hd
  have R0 := Lib.hid (Hps.canH_data hv ho e2)
  obtain ⟨hb1, hb2⟩ := Hps.okCm_a ho
  obtain ⟨b, hbn⟩ := Int.eq_ofNat_of_zero_le hb1
  have hr4 := (Hps.valid_iff.1 hv).2.2.1
  have hx := List.getElem?_eq_getElem (show b < h.rt.length by omega)
  generalize h.rt[b]'(by omega) = x at hx
  have HRt := Lib.hid (Hps.rootAt_nat hx)
  have ok := Hps.valid_root hv hx
  obtain ⟨op, a, b', cc⟩ := o
  simp only at hbn
  subst hbn
  have bb : Below w.heap.size w ((w.alloc (.cells #[.int .i64 op, .int .i64 b, .int .i64 b', .int .i64 cc] 36)).alloc (.cells #[.slice A n c, .slice R m d] 26)) := ((Below.refl _ _).alloc (Nat.le_refl _) _).alloc (by simp) _
  have s2 := hs.below bb
  have hlr := hs.roots.1
  have hb4 : b < m := by
    simp only at hb2
    omega
  obtain ⟨g, og, x', rfl, hg, hx', d1⟩ := s2.roots.at_ (k := b) hb4
  rw [hx] at hx'
  obtain rfl := Option.some.inj hx'
  have hbm : (b : Int) < m := by exact_mod_cast hb4
  have HV := Lib.hid (show (x != -1) = decide (0 ≤ x) by
    rcases okRef_form ok with rfl | ⟨y, rfl, _⟩
    · rfl
    · rw [decide_eq_true (by omega : (0 : Int) ≤ (y : Int)), bne_iff_ne]
      omega)
  clear hb1 hb2 e2 ho hr4 hx hx' s2 hlr hs
  go_enter Tryd.func134, Tryd.ntmps134
  go_wp2_with fail
  go_ret
  exact ⟨by rw [R0.out]; simp only [HRt.out]; rw [← HV.out]; rfl, bb⟩
end Go.Proofs.YtfgdenmlfloloaaDoor

namespace Go.Proofs.YtfgdenmlfloloaaDoor
open Go.RowKit
set_option maxRecDepth 100000
/-- a heap of the call's own, and what a pointer v leads to lies apart, once l -/
def OwnF (w : World) (base : Nat) (v : Value) (l : Bool) (vc vr : Value) (h : Hp) : Prop := ∃ rvs, OwnHx w base vc vr rvs h ∧ ∀ g, l = true → v = .pointer (some ⟨g, 0, none⟩) → Apart (some g) (vc :: vr :: rvs)
section
variable {w w' : World} {base : Nat} {v vc vr : Value} {l l' : Bool} {h : Hp}
theorem OwnF.own (ho : OwnF w base v l vc vr h) : OwnH w base vc vr h := by
  obtain ⟨rvs, o, _⟩ := ho
  exact ⟨rvs, o⟩
theorem OwnF.below (ho : OwnF w base v l vc vr h) (hb : Below w.heap.size w w') : OwnF w' base v l vc vr h := by
  obtain ⟨rvs, o, a⟩ := ho
  exact ⟨rvs, o.below hb (Nat.le_refl _), a⟩
theorem OwnF.alloc (ho : OwnF w base v l vc vr h) (ob : Obj) : OwnF (w.alloc ob) base (.pointer (some ⟨w.heap.size, 0, none⟩)) l' vc vr h := by
  obtain ⟨rvs, o, a⟩ := ho
  refine ⟨rvs, o.below ((Below.refl _ _).alloc (Nat.le_refl _) _) (Nat.le_refl _), fun g _ e => ?_⟩
  injection e with e
  injection e with e
  injection e with e
  subst e
  exact o.apart_new (Nat.le_refl _)
theorem OwnF.new (ho : OwnH w base vc vr h) (hv : ∀ g, l = true → v = .pointer (some ⟨g, 0, none⟩) → g < base) : OwnF w base v l vc vr h := by
  obtain ⟨rvs, o⟩ := ho
  exact ⟨rvs, o, fun g hl e => o.apart_below (hv g hl e)⟩
theorem OwnF.put {g : Nat} (ho : OwnF w base (.pointer (some ⟨g, 0, none⟩)) l vc vr h) (hl : l = true) (u u' : Value) : OwnF ((w.setCell ⟨g, 0, none⟩ u).setCell ⟨g, 1, none⟩ u') base (.pointer (some ⟨g, 0, none⟩)) l vc vr h := by
  obtain ⟨rvs, o, a⟩ := ho
  exact ⟨rvs, (o.far (put_any w g 0 u) (a g hl rfl)).far (put_any _ g 1 u') (a g hl rfl), a⟩
end
/-- while a program runs: the heap so far in the box b -/
structure RunSt (w wr : World) (b : Nat) (vc vr : Value) (h : Hp) : Prop where
  own : ∃ rvs, OwnHx wr (w.heap.size + 1) vc vr rvs h ∧ Apart (some b) (vc :: vr :: rvs)
  box : Rw wr b 26 #[vc, vr]
  res : Rw wr w.heap.size 26 #[.slice none 0 0, .slice none 0 0]
  bel : Below w.heap.size w wr
  lo : w.heap.size + 1 ≤ b
theorem RunSt.next {w wr w5 : World} {b : Nat} {vc vr vc' vr' : Value} {h h' : Hp} (S : RunSt w wr b vc vr h) (B : Below wr.heap.size wr w5) (o : OwnH w5 wr.heap.size vc' vr' h') :
    RunSt w ((w5.setCell ⟨b, 0, none⟩ vc').setCell ⟨b, 1, none⟩ vr') b vc' vr' h' := by
  have hb := S.box.lt
  have hlo := S.lo
  obtain ⟨rvs, own⟩ := o
  have ap : Apart (some b) (vc' :: vr' :: rvs) := own.apart_below hb
  have x1 := S.box.keep B hb
  have x2 := S.res.keep B S.res.lt
  refine ⟨⟨rvs, ((own.far (put_any w5 b 0 vc') ap).far (put_any _ b 1 vr') ap).base (by omega), ap⟩, (x1.put 0 vc').put 1 vr', (x2.other (by omega) _).other (by omega) _, ?_, hlo⟩
  exact ((S.bel.trans (B.mono S.bel.size)).setCell (p := ⟨b, 0, none⟩) (by show w.heap.size ≤ b; omega) _).setCell (p := ⟨b, 1, none⟩) (by show w.heap.size ≤ b; omega) _
end Go.Proofs.YtfgdenmlfloloaaDoor

namespace Go.Proofs.YtfgdenmlfloloaaDoor
open Go.RowKit
set_option maxRecDepth 100000
/-- a heap of the call's own in the box b; what was there before the world w0 is as it was -/
structure BoxSt (w0 wr : World) (b : Nat) (vc vr : Value) (rvs : List Value) (h : Hp) : Prop where
  own : OwnHx wr w0.heap.size vc vr rvs h
  apart : Apart (some b) (vc :: vr :: rvs)
  box : Rw wr b 26 #[vc, vr]
  low : Below w0.heap.size w0 wr
  lo : w0.heap.size ≤ b
section
variable {w0 wr w1 : World} {b g c d i k : Nat} {vc vr : Value} {rvs : List Value} {h : Hp} {cl : Cl}
theorem BoxSt.up (S : BoxSt w0 wr b vc vr rvs h) (hw : Below wr.heap.size wr w1) : BoxSt w0 w1 b vc vr rvs h :=
  ⟨S.own.below hw (Nat.le_refl _), S.apart, S.box.keep hw S.box.lt, S.low.trans (hw.mono S.low.size), S.lo⟩
theorem BoxSt.drew (S : BoxSt w0 wr b vc vr rvs h) : BoxSt w0 wr.drew b vc vr rvs h := S.up (Below.refl _ _).drew
theorem BoxSt.into (S : BoxSt w0 wr b vc vr rvs h) {v : Value} (hv : v ∈ vc :: vr :: rvs) (hg : v.ownBlock = some g) {rvs' : List Value} {h' : Hp} (u : Value)
    (ho : OwnHx (wr.setCell ⟨g, i, none⟩ u) w0.heap.size vc vr rvs' h') (ha : ∀ v ∈ rvs', v.ownBlock = none ∨ v.ownBlock ≠ some b) : BoxSt w0 (wr.setCell ⟨g, i, none⟩ u) b vc vr rvs' h' := by
  have h1 := S.own.blocks hv hg
  have h2 : b ≠ g := by
    rcases S.apart v hv with e | e
    · rw [hg] at e; cases e
    · intro e'; rw [hg] at e; exact e (by rw [e'])
  refine ⟨ho, ?_, S.box.other h2 u, S.low.setCell (p := ⟨g, i, none⟩) (by show w0.heap.size ≤ g; omega) u, S.lo⟩
  intro x hx
  simp only [List.mem_cons] at hx
  rcases hx with rfl | rfl | hx
  · exact S.apart x (by simp)
  · exact S.apart x (by simp)
  · exact ha x hx
theorem BoxSt.root {m : Nat} (S : BoxSt w0 wr b vc (.slice (some ⟨g, 0, none⟩) m d) rvs h) (hm : h.rt.length = m) (x : Int) : BoxSt w0 (wr.setCell ⟨g, i, none⟩ (.int .i64 x)) b vc (.slice (some ⟨g, 0, none⟩) m d) rvs ⟨h.cs, h.rt.set i x⟩ := by
  subst hm
  exact S.into (v := .slice (some ⟨g, 0, none⟩) h.rt.length d) (by simp) rfl _ (S.own.root x) fun v hv => S.apart v (by simp [hv])
theorem BoxSt.data {n : Nat} (S : BoxSt w0 wr b (.slice (some ⟨g, 0, none⟩) n d) vr rvs h) (hn : h.cs.length = n) (hc : h.cs[k]? = some cl) (x : Int) : BoxSt w0 (wr.setCell ⟨g, k * 3 + 1, none⟩ (.int .i64 x)) b (.slice (some ⟨g, 0, none⟩) n d) vr rvs ⟨h.cs.set k ⟨cl.u, x, cl.r⟩, h.rt⟩ := by
  subst hn
  exact S.into (v := .slice (some ⟨g, 0, none⟩) h.cs.length d) (by simp) rfl _ (S.own.data hc x) fun v hv => S.apart v (by simp [hv])
theorem BoxSt.ref1 {m : Nat} (S : BoxSt w0 wr b vc vr rvs h) (hc : h.cs[k]? = some cl) (hv : rvs[k]? = some (.slice (some ⟨g, 0, none⟩) m d)) (hm : cl.r.length = m) (x : Int) : BoxSt w0 (wr.setCell ⟨g, i, none⟩ (.int .i64 x)) b vc vr rvs ⟨h.cs.set k ⟨cl.u, cl.d, cl.r.set i x⟩, h.rt⟩ := by
  subst hm
  exact S.into (v := .slice (some ⟨g, 0, none⟩) cl.r.length d) (by simp [List.mem_of_getElem? hv]) rfl _ (S.own.ref1 hc hv x) fun v hv => S.apart v (by simp [hv])
theorem BoxSt.snoc {v9 v8 : Value} (S : BoxSt w0 wr b vc vr rvs h) (hG : wr.grownBy w1 vc.ownBlock)
    (o9 : w1.ownsRow w0.heap.size 43 3 v9 (h.cs.length + 1) (flatC h.cs rvs ++ [.bool cl.u, .int .i64 cl.d, v8])) (q : v9.ownBlock = vc.ownBlock ∨ v9.ownBlock = some wr.heap.size)
    (o8 : OwnI wr w0.heap.size v8 cl.r) (hap : ∀ v ∈ vc :: vr :: rvs, v8.ownBlock = none ∨ v8.ownBlock ≠ v.ownBlock) (h8b : v8.ownBlock ≠ some b) :
    BoxSt w0 (w1.setCell ⟨b, 0, none⟩ v9) b v9 vr (rvs ++ [v8]) ⟨h.cs ++ [cl], h.rt⟩ := by
  have hn := S.own.snoc hG o9 q o8 hap
  have hlo := S.lo
  have hbl := S.box.lt
  have hvcb : some b ≠ vc.ownBlock := by
    rcases S.apart vc (by simp) with e | e
    · rw [e]; simp
    · exact fun h => e h.symm
  have ap : Apart (some b) (v9 :: vr :: (rvs ++ [v8])) := by
    intro v hv
    simp only [List.mem_cons, List.mem_append, List.not_mem_nil, or_false] at hv
    rcases hv with rfl | rfl | hv | rfl
    · right
      rcases q with e | e
      · rw [e]; exact fun h => hvcb h.symm
      · rw [e]; intro e'; injection e' with e'; omega
    · exact S.apart v (by simp)
    · exact S.apart v (by simp [hv])
    · exact .inr h8b
  refine ⟨hn.far (put_any w1 b 0 v9) ap, ap, (Rw.far S.box hG hvcb).put 0 v9, ?_, hlo⟩
  exact (S.low.grown hG S.low.size (fun kk hk => (S.own.blocks (v := vc) (by simp) hk).1)).setCell (p := ⟨b, 0, none⟩) (by show w0.heap.size ≤ b; omega) _
theorem BoxSt.cell {n : Nat} {rv : Value} {old : Cl} (S : BoxSt w0 wr b (.slice (some ⟨g, 0, none⟩) n c) vr rvs h) (hn : h.cs.length = n) (hc : h.cs[k]? = some old) (o : OwnI wr w0.heap.size rv cl.r) (hap : ∀ v ∈ (Value.slice (some ⟨g, 0, none⟩) n c) :: vr :: rvs, rv.ownBlock = none ∨ rv.ownBlock ≠ v.ownBlock) (h8b : rv.ownBlock = none ∨ rv.ownBlock ≠ some b) :
    BoxSt w0 (((wr.setCell ⟨g, k * 3, none⟩ (.bool cl.u)).setCell ⟨g, k * 3 + 1, none⟩ (.int .i64 cl.d)).setCell ⟨g, k * 3 + 2, none⟩ rv) b (.slice (some ⟨g, 0, none⟩) n c) vr (rvs.set k rv) ⟨h.cs.set k cl, h.rt⟩ := by
  subst hn
  have hm : (Value.slice (some ⟨g, 0, none⟩) h.cs.length c) ∈ (Value.slice (some ⟨g, 0, none⟩) h.cs.length c) :: vr :: rvs := by simp
  have h1 : w0.heap.size ≤ g ∧ g < wr.heap.size := S.own.blocks hm rfl
  have h2 : b ≠ g := by
    rcases S.apart _ hm with e | e
    · cases e
    · intro e'; exact e (by rw [e']; rfl)
  refine ⟨S.own.cell hc o hap, ?_, ((S.box.other h2 _).other h2 _).other h2 _, ?_, S.lo⟩
  · intro x hx
    simp only [List.mem_cons] at hx
    rcases hx with rfl | rfl | hx
    · exact S.apart _ (by simp)
    · exact S.apart x (by simp)
    · rcases List.mem_or_eq_of_mem_set hx with hx | rfl
      · exact S.apart x (by simp [hx])
      · exact h8b
  · exact ((S.low.setCell (p := ⟨g, k * 3, none⟩) (by show w0.heap.size ≤ g; omega) _).setCell (p := ⟨g, k * 3 + 1, none⟩) (by show w0.heap.size ≤ g; omega) _).setCell (p := ⟨g, k * 3 + 2, none⟩) (by show w0.heap.size ≤ g; omega) _
theorem BoxSt.ownH (S : BoxSt w0 wr b vc vr rvs h) : OwnH wr w0.heap.size vc vr h := ⟨rvs, S.own⟩
theorem BoxSt.of {w1 : World} (o : OwnH w1 w0.heap.size vc vr h) (hb : Below w0.heap.size w0 w1) : ∃ rvs, BoxSt w0 (w1.alloc (.cells #[vc, vr] 26)) w1.heap.size vc vr rvs h := by
  obtain ⟨rvs, own⟩ := o
  exact ⟨rvs, own.below ((Below.refl _ _).alloc (Nat.le_refl _) _) (Nat.le_refl _), own.apart_new (Nat.le_refl _), Rw.new _ _ _, hb.alloc hb.size _, hb.size⟩
end
end Go.Proofs.YtfgdenmlfloloaaDoor
namespace Go.Proofs.YtfgdenmlfloloaaDoor
open Go.RowKit
set_option maxRecDepth 100000
namespace Hps
end Hps
end Go.Proofs.YtfgdenmlfloloaaDoor
namespace Go.Proofs.YtfgdenmlfloloaaDoor
open Go.RowKit
set_option maxRecDepth 100000
theorem OwnO.slices {w : World} {base : Nat} {v : Value} {xs : List Bool} (h : OwnO w base v xs) : ∃ A n c, v = .slice A n c := by
  obtain ⟨A, c, e, -⟩ := h.form
  exact ⟨A, _, c, e⟩
theorem OwnH.put {w : World} {base g : Nat} {vc vr : Value} {h : Hp} (ho : OwnH w base vc vr h) (hg : g < base) (u u' : Value) : OwnH ((w.setCell ⟨g, 0, none⟩ u).setCell ⟨g, 1, none⟩ u') base vc vr h := by
  obtain ⟨rvs, own⟩ := ho
  have ap : Apart (some g) (vc :: vr :: rvs) := own.apart_below hg
  exact ⟨rvs, (own.far (put_any w g 0 u) ap).far (put_any _ g 1 u') ap⟩
end Go.Proofs.YtfgdenmlfloloaaDoor

namespace Go.Proofs.YtfgdenmlfloloaaDoor
open Go.RowKit
set_option maxRecDepth 100000
/-- what StepHeap asks of the function in the table -/
def ExecF (g : Nat) (o : Cm) (h : Hp) : Prop := ∀ (w0 w1 : World) (b : Nat) (vc vr : Value) (rvs : List Value), BoxSt w0 w1 b vc vr rvs h →
  Calls Tryd.prog g #[cmV o, .pointer (some ⟨b, 0, none⟩)] w1 fun e w' => (∃ v, e = .returned v) ∧ ∃ vc' vr' rvs', BoxSt w0 w' b vc' vr' rvs' (Hps.doH h o h.cs.length)
theorem BoxSt.form {w0 wr : World} {b : Nat} {vc vr : Value} {rvs : List Value} {h : Hp} (S : BoxSt w0 wr b vc vr rvs h) (hl : 0 < h.rt.length) : ∃ A c gr d, vc = .slice A h.cs.length c ∧ vr = .slice (some ⟨gr, 0, none⟩) h.rt.length d ∧ (0 < h.cs.length → ∃ g, A = some ⟨g, 0, none⟩) := by
  obtain ⟨A, c, R, d, e1, e2, _, _, fA, fR⟩ := S.own.form
  obtain ⟨gr, rfl, _, _⟩ := fR hl
  exact ⟨A, c, gr, d, e1, e2, fun h => by obtain ⟨g, e, _⟩ := fA h; exact ⟨g, e⟩⟩
set_option maxHeartbeats 4000000 in
theorem exec_drop {a : Nat} {ob : Int} {oc : Int} {h : Hp} (hv : Hps.validH h = true) (ha : a < 4) : ExecF 133 ⟨5, a, ob, oc⟩ h := by
  intro w0 w1 b vc vr rvs S0
  have hr4 := (Hps.valid_iff.1 hv).2.2.1
  have HF := Lib.hid (show Hps.doH h ⟨5, a, ob, oc⟩ h.cs.length = ⟨h.cs, h.rt.set a (-1)⟩ by simp [Hps.doH])
  have ham : (a : Int) < 4 := by omega
  have HL := Lib.hid hr4
  obtain ⟨A, c, gr, d, rfl, rfl, -⟩ := S0.form (by omega)
  rw [hr4] at S0
  have S := S0.up ((Below.refl w1.heap.size w1).alloc (Nat.le_refl _) (.cells #[.int .i64 5, .int .i64 a, .int .i64 ob, .int .i64 oc] 36))
  have Q := Rw.new w1 36 #[.int .i64 5, .int .i64 a, .int .i64 ob, .int .i64 oc]
  clear S0 hr4 hv
  go_enter Tryd.func133, Tryd.ntmps133
  go_upto_region 1 with fail
  generalize w1.alloc (.cells #[.int .i64 5, .int .i64 a, .int .i64 ob, .int .i64 oc] 36) = w2 at S Q ⊢
  generalize w1.heap.size = q at Q ⊢
  have y1 : w2.cell? ⟨q, 1, none⟩ = some (.int .i64 a) := Q.cell 1
  have y2 : w2.cell? ⟨q, 2, none⟩ = some (.int .i64 ob) := Q.cell 2
  have y3 : w2.cell? ⟨q, 3, none⟩ = some (.int .i64 oc) := Q.cell 3
  have x1 : w2.cell? ⟨b, 1, none⟩ = some (.slice (some ⟨gr, 0, none⟩) 4 d) := S.box.cell 1
  have SS := Lib.hid S
  clear S Q y2 y3
  go_still_tail 7, (by kernel_rfl)
  change wpList _ _ _ _ _ w2.drew
  have S4 := SS.out.drew
  generalize w2.drew = w4 at S4 ⊢
  obtain ⟨xo, hxo, cr⟩ := S4.own.roots.cell_at (j := a) (by omega)
  have fz : w4.frozen? ⟨gr, a, none⟩ = false := S4.own.roots.frozen HL.out a
  have S5 := S4.root (i := a) HL.out (-1)
  clear S4 SS
  go_wp2_with fail
  go_end0
  exact ⟨⟨_, rfl⟩, _, _, _, by rw [HF.out]; exact S5⟩
set_option maxHeartbeats 4000000 in
theorem exec_copy {a : Nat} {ob : Nat} {oc : Int} {h : Hp} (hv : Hps.validH h = true) (ha : a < 4) (hb : ob < 4) : ExecF 132 ⟨4, a, ob, oc⟩ h := by
  intro w0 w1 b vc vr rvs S0
  have hr4 := (Hps.valid_iff.1 hv).2.2.1
  have ham : (a : Int) < 4 := by omega
  have hbm : (ob : Int) < 4 := by omega
  have hx := List.getElem?_eq_getElem (show ob < h.rt.length by omega)
  generalize h.rt[ob]'(by omega) = x at hx
  have HF := Lib.hid (show Hps.doH h ⟨4, a, ob, oc⟩ h.cs.length = ⟨h.cs, h.rt.set a x⟩ by simp [Hps.doH, Hps.rootAt, hx])
  have HL := Lib.hid hr4
  obtain ⟨A, c, gr, d, rfl, rfl, -⟩ := S0.form (by omega)
  rw [hr4] at S0
  have S := S0.up ((Below.refl w1.heap.size w1).alloc (Nat.le_refl _) (.cells #[.int .i64 4, .int .i64 a, .int .i64 ob, .int .i64 oc] 36))
  have Q := Rw.new w1 36 #[.int .i64 4, .int .i64 a, .int .i64 ob, .int .i64 oc]
  clear S0 hr4 hv
  go_enter Tryd.func132, Tryd.ntmps132
  go_upto_region 1 with fail
  generalize w1.alloc (.cells #[.int .i64 4, .int .i64 a, .int .i64 ob, .int .i64 oc] 36) = w2 at S Q ⊢
  generalize w1.heap.size = q at Q ⊢
  have y1 : w2.cell? ⟨q, 1, none⟩ = some (.int .i64 a) := Q.cell 1
  have y2 : w2.cell? ⟨q, 2, none⟩ = some (.int .i64 ob) := Q.cell 2
  have y3 : w2.cell? ⟨q, 3, none⟩ = some (.int .i64 oc) := Q.cell 3
  have x1 : w2.cell? ⟨b, 1, none⟩ = some (.slice (some ⟨gr, 0, none⟩) 4 d) := S.box.cell 1
  obtain ⟨x2, hx2, cx2⟩ := S.own.roots.cell_at (j := ob) (by omega)
  rw [hx] at hx2
  obtain rfl := Option.some.inj hx2
  have SS := Lib.hid S
  clear S Q y3 hx hx2
  go_still_tail 15, (by kernel_rfl)
  change wpList _ _ _ _ _ w2.drew
  have S4 := SS.out.drew
  generalize w2.drew = w4 at S4 ⊢
  obtain ⟨xo, hxo, cr⟩ := S4.own.roots.cell_at (j := a) (by omega)
  have fz : w4.frozen? ⟨gr, a, none⟩ = false := S4.own.roots.frozen HL.out a
  have S5 := S4.root (i := a) HL.out x
  clear S4 SS
  go_wp2_with fail
  go_end0
  exact ⟨⟨_, rfl⟩, _, _, _, by rw [HF.out]; exact S5⟩
set_option maxHeartbeats 4000000 in
theorem exec_get {a : Nat} {ob : Nat} {oc : Nat} {h : Hp} (hv : Hps.validH h = true) (ha : a < 4) (hb : ob < 4) {k : Nat} {cl : Cl} (hk : Hps.rootAt h ob = k) (hcl : h.cs[k]? = some cl) (hoc : oc < cl.r.length) : ExecF 129 ⟨2, a, ob, oc⟩ h := by
  intro w0 w1 b vc vr rvs S0
  have hr4 := (Hps.valid_iff.1 hv).2.2.1
  have ham : (a : Int) < 4 := by omega
  have hbm : (ob : Int) < 4 := by omega
  have hx := List.getElem?_eq_getElem (show ob < h.rt.length by omega)
  generalize h.rt[ob]'(by omega) = x at hx
  rw [Hps.rootAt_nat hx] at hk
  subst hk
  have hy := List.getElem?_eq_getElem hoc
  generalize cl.r[oc] = y at hy
  have hlk := (List.getElem?_eq_some_iff.1 hcl).1
  obtain ⟨n, hn⟩ : ∃ n, h.cs.length = n := ⟨_, rfl⟩
  have hkn : (k : Int) < n := by omega
  have hck : h.cs[(k : Int).toNat]? = some cl := hcl
  have HF := Lib.hid (show Hps.doH h ⟨2, a, ob, oc⟩ h.cs.length = ⟨h.cs, h.rt.set a y⟩ by simp [Hps.doH, Hps.rootAt, hx, Hps.refAt, hcl, hy])
  have HL := Lib.hid hr4
  obtain ⟨A, c, gr, d, rfl, rfl, -⟩ := S0.form (by omega)
  rw [hr4] at S0
  have S := S0.up ((Below.refl w1.heap.size w1).alloc (Nat.le_refl _) (.cells #[.int .i64 2, .int .i64 a, .int .i64 ob, .int .i64 oc] 36))
  have Q := Rw.new w1 36 #[.int .i64 2, .int .i64 a, .int .i64 ob, .int .i64 oc]
  clear S0 hr4 hv
  go_enter Tryd.func129, Tryd.ntmps129
  go_upto_region 1 with fail
  generalize w1.alloc (.cells #[.int .i64 2, .int .i64 a, .int .i64 ob, .int .i64 oc] 36) = w2 at S Q ⊢
  generalize w1.heap.size = q at Q ⊢
  have y1 : w2.cell? ⟨q, 1, none⟩ = some (.int .i64 a) := Q.cell 1
  have y2 : w2.cell? ⟨q, 2, none⟩ = some (.int .i64 ob) := Q.cell 2
  have y3 : w2.cell? ⟨q, 3, none⟩ = some (.int .i64 oc) := Q.cell 3
  rw [hn] at S
  have x1 : w2.cell? ⟨b, 1, none⟩ = some (.slice (some ⟨gr, 0, none⟩) 4 d) := S.box.cell 1
  obtain ⟨x2, hx2, cx2⟩ := S.own.roots.cell_at (j := ob) (by omega)
  rw [hx] at hx2
  obtain rfl := Option.some.inj hx2
  obtain ⟨gc, v, hA, hg1, hg2, hrv, hov, d0, d1, d2, fzc⟩ := S.own.cell_at (A := A) (n := n) (c := c) (by exact hcl)
  subst hA
  have x0 : w2.cell? ⟨b, 0, none⟩ = some (.slice (some ⟨gc, 0, none⟩) n c) := S.box.cell 0
  obtain ⟨A8, c8, rfl, fA8⟩ := hov.form
  obtain ⟨g8, rfl, _, _⟩ := fA8 (by omega)
  obtain ⟨m8, hm8⟩ : ∃ m8, cl.r.length = m8 := ⟨_, rfl⟩
  rw [hm8] at hov d2 hrv hoc
  obtain ⟨y', hy', cy⟩ := hov.cell_at (j := oc) hoc
  rw [hy] at hy'
  obtain rfl := Option.some.inj hy'
  have hom : (oc : Int) < m8 := by omega
  have SS := Lib.hid S
  clear S Q hx hx2 hck hcl hy hy' hov hrv hm8 hg1 hg2 d0 d1 fzc fA8 hoc
  go_still_tail 26, (by kernel_rfl)
  change wpList _ _ _ _ _ w2.drew
  have S4 := SS.out.drew
  generalize w2.drew = w4 at S4 ⊢
  obtain ⟨xo, hxo, cr⟩ := S4.own.roots.cell_at (j := a) (by omega)
  have fz : w4.frozen? ⟨gr, a, none⟩ = false := S4.own.roots.frozen HL.out a
  have S5 := S4.root (i := a) HL.out y
  clear S4 SS
  go_wp2_with fail
  go_end0
  exact ⟨⟨_, rfl⟩, _, _, _, by rw [HF.out]; exact S5⟩
set_option maxHeartbeats 4000000 in
theorem exec_set {a : Nat} {ob : Nat} {oc : Nat} {h : Hp} (hv : Hps.validH h = true) (ha : a < 4) (hb : ob < 4) {k : Nat} {cl : Cl} (hk : Hps.rootAt h a = k) (hcl : h.cs[k]? = some cl) (hoc : oc < cl.r.length) : ExecF 131 ⟨3, a, ob, oc⟩ h := by
  intro w0 w1 b vc vr rvs S0
  have hr4 := (Hps.valid_iff.1 hv).2.2.1
  have ham : (a : Int) < 4 := by omega
  have hbm : (ob : Int) < 4 := by omega
  have hx := List.getElem?_eq_getElem (show a < h.rt.length by omega)
  generalize h.rt[a]'(by omega) = x at hx
  rw [Hps.rootAt_nat hx] at hk
  subst hk
  have hz := List.getElem?_eq_getElem (show ob < h.rt.length by omega)
  generalize h.rt[ob]'(by omega) = z at hz
  have hlk := (List.getElem?_eq_some_iff.1 hcl).1
  obtain ⟨n, hn⟩ : ∃ n, h.cs.length = n := ⟨_, rfl⟩
  have hkn : (k : Int) < n := by omega
  have HF := Lib.hid (show Hps.doH h ⟨3, a, ob, oc⟩ h.cs.length = ⟨h.cs.set k ⟨cl.u, cl.d, cl.r.set oc z⟩, h.rt⟩ by simp [Hps.doH, Hps.rootAt, hx, hz, Hps.setRef, hcl])
  have HL := Lib.hid hr4
  obtain ⟨A, c, gr, d, rfl, rfl, -⟩ := S0.form (by omega)
  rw [hr4] at S0
  have S := S0.up ((Below.refl w1.heap.size w1).alloc (Nat.le_refl _) (.cells #[.int .i64 3, .int .i64 a, .int .i64 ob, .int .i64 oc] 36))
  have Q := Rw.new w1 36 #[.int .i64 3, .int .i64 a, .int .i64 ob, .int .i64 oc]
  clear S0 hr4 hv
  go_enter Tryd.func131, Tryd.ntmps131
  go_upto_region 1 with fail
  generalize w1.alloc (.cells #[.int .i64 3, .int .i64 a, .int .i64 ob, .int .i64 oc] 36) = w2 at S Q ⊢
  generalize w1.heap.size = q at Q ⊢
  have y1 : w2.cell? ⟨q, 1, none⟩ = some (.int .i64 a) := Q.cell 1
  have y2 : w2.cell? ⟨q, 2, none⟩ = some (.int .i64 ob) := Q.cell 2
  have y3 : w2.cell? ⟨q, 3, none⟩ = some (.int .i64 oc) := Q.cell 3
  rw [hn] at S
  have x1 : w2.cell? ⟨b, 1, none⟩ = some (.slice (some ⟨gr, 0, none⟩) 4 d) := S.box.cell 1
  obtain ⟨x2, hx2, cx2⟩ := S.own.roots.cell_at (j := a) (by omega)
  rw [hx] at hx2
  obtain rfl := Option.some.inj hx2
  obtain ⟨x3, hx3, cx3⟩ := S.own.roots.cell_at (j := ob) (by omega)
  rw [hz] at hx3
  obtain rfl := Option.some.inj hx3
  obtain ⟨gc, v, hA, hg1, hg2, hrv, hov, d0, d1, d2, fzc⟩ := S.own.cell_at (A := A) (n := n) (c := c) (by exact hcl)
  subst hA
  have x0 : w2.cell? ⟨b, 0, none⟩ = some (.slice (some ⟨gc, 0, none⟩) n c) := S.box.cell 0
  obtain ⟨A8, c8, rfl, fA8⟩ := hov.form
  obtain ⟨g8, rfl, _, _⟩ := fA8 (by omega)
  obtain ⟨m8, hm8⟩ : ∃ m8, cl.r.length = m8 := ⟨_, rfl⟩
  rw [hm8] at hov d2 hrv hoc
  have hom : (oc : Int) < m8 := by omega
  obtain ⟨yo, hyo, cyo⟩ := hov.cell_at (j := oc) hoc
  have fzo : w2.frozen? ⟨g8, oc, none⟩ = false := hov.frozen hm8 oc
  have SS := Lib.hid S
  have HCL := Lib.hid hcl
  have HRV := Lib.hid hrv
  have HM8 := Lib.hid hm8
  clear S Q hx hx2 hx3 hz hcl hyo hov hrv hm8 hg1 hg2 d0 d1 fzc fA8 hoc
  go_still_tail 26, (by kernel_rfl)
  change wpList _ _ _ _ _ w2.drew
  have S4 := SS.out.drew
  have FZ := Lib.hid (show w2.drew.frozen? ⟨g8, oc, none⟩ = false from fzo)
  have CR := Lib.hid (show w2.drew.cell? ⟨g8, oc, none⟩ = some (.int .i64 yo) from cyo)
  generalize w2.drew = w4 at S4 FZ CR ⊢
  have fz : w4.frozen? ⟨g8, oc, none⟩ = false := FZ.out
  have cr : w4.cell? ⟨g8, oc, none⟩ = some (.int .i64 yo) := CR.out
  have S5 := S4.ref1 (i := oc) HCL.out HRV.out HM8.out z
  clear S4 SS
  go_wp2_with fail
  go_end0
  exact ⟨⟨_, rfl⟩, _, _, _, by rw [HF.out]; exact S5⟩
set_option maxHeartbeats 4000000 in
theorem exec_data {a : Nat} {ob : Int} {oc : Int} {h : Hp} (hv : Hps.validH h = true) (ha : a < 4) {k : Nat} {cl : Cl} (hk : Hps.rootAt h a = k) (hcl : h.cs[k]? = some cl) : ExecF 135 ⟨6, a, ob, oc⟩ h := by
  intro w0 w1 b vc vr rvs S0
  have hr4 := (Hps.valid_iff.1 hv).2.2.1
  have ham : (a : Int) < 4 := by omega
  have hx := List.getElem?_eq_getElem (show a < h.rt.length by omega)
  generalize h.rt[a]'(by omega) = x at hx
  rw [Hps.rootAt_nat hx] at hk
  subst hk
  have hlk := (List.getElem?_eq_some_iff.1 hcl).1
  obtain ⟨n, hn⟩ : ∃ n, h.cs.length = n := ⟨_, rfl⟩
  have hkn : (k : Int) < n := by omega
  have HF := Lib.hid (show Hps.doH h ⟨6, a, ob, oc⟩ h.cs.length = ⟨h.cs.set k ⟨cl.u, ob, cl.r⟩, h.rt⟩ by simp [Hps.doH, Hps.rootAt, hx, Hps.setDat, hcl])
  have HL := Lib.hid hr4
  obtain ⟨A, c, gr, d, rfl, rfl, -⟩ := S0.form (by omega)
  rw [hr4] at S0
  have S := S0.up ((Below.refl w1.heap.size w1).alloc (Nat.le_refl _) (.cells #[.int .i64 6, .int .i64 a, .int .i64 ob, .int .i64 oc] 36))
  have Q := Rw.new w1 36 #[.int .i64 6, .int .i64 a, .int .i64 ob, .int .i64 oc]
  clear S0 hr4 hv
  go_enter Tryd.func135, Tryd.ntmps135
  go_upto_region 1 with fail
  generalize w1.alloc (.cells #[.int .i64 6, .int .i64 a, .int .i64 ob, .int .i64 oc] 36) = w2 at S Q ⊢
  generalize w1.heap.size = q at Q ⊢
  have y1 : w2.cell? ⟨q, 1, none⟩ = some (.int .i64 a) := Q.cell 1
  have y2 : w2.cell? ⟨q, 2, none⟩ = some (.int .i64 ob) := Q.cell 2
  have y3 : w2.cell? ⟨q, 3, none⟩ = some (.int .i64 oc) := Q.cell 3
  rw [hn] at S
  have x1 : w2.cell? ⟨b, 1, none⟩ = some (.slice (some ⟨gr, 0, none⟩) 4 d) := S.box.cell 1
  obtain ⟨x2, hx2, cx2⟩ := S.own.roots.cell_at (j := a) (by omega)
  rw [hx] at hx2
  obtain rfl := Option.some.inj hx2
  obtain ⟨gc, v, hA, hg1, hg2, hrv, hov, d0, d1, d2, fzc⟩ := S.own.cell_at (A := A) (n := n) (c := c) (by exact hcl)
  subst hA
  have x0 : w2.cell? ⟨b, 0, none⟩ = some (.slice (some ⟨gc, 0, none⟩) n c) := S.box.cell 0
  have fzo := fzc (k * 3 + 1)
  have SS := Lib.hid S
  have HCL := Lib.hid hcl
  have HN := Lib.hid hn
  clear S Q hx hx2 hcl hov hrv hg1 hg2 d0 d2 fzc hn
  go_still_tail 16, (by kernel_rfl)
  change wpList _ _ _ _ _ w2.drew
  have S4 := SS.out.drew
  have FZ := Lib.hid (show w2.drew.frozen? ⟨gc, k * 3 + 1, none⟩ = false from fzo)
  have CR := Lib.hid (show w2.drew.cell? ⟨gc, k * 3 + 1, none⟩ = some (.int .i64 cl.d) from d1)
  generalize w2.drew = w4 at S4 FZ CR ⊢
  have fz : w4.frozen? ⟨gc, k * 3 + 1, none⟩ = false := FZ.out
  have cr : w4.cell? ⟨gc, k * 3 + 1, none⟩ = some (.int .i64 cl.d) := CR.out
  have S5 := S4.data HN.out HCL.out ob
  clear S4 SS
  go_wp2_with fail
  go_end0
  exact ⟨⟨_, rfl⟩, _, _, _, by rw [HF.out]; exact S5⟩
end Go.Proofs.YtfgdenmlfloloaaDoor

namespace Go.Proofs.YtfgdenmlfloloaaDoor
open Go.RowKit
set_option maxRecDepth 100000
theorem info_intsize : (Tryd.prog.info? 3).map (·.size) = some 1 := by kernel_rfl
/-- k times -1, then 0 up to N -/
def repN (N k : Nat) : List Value := List.replicate k (.int .i64 (-1)) ++ List.replicate (N - k) (.int .i64 0)
def RowN (w : World) (g N k : Nat) : Prop := w.heap[g]? = some (.cells (repN N k).toArray 3 (0, 0))
theorem RowN.cell {w : World} {g N k j : Nat} (h : RowN w g N k) (hj : j < k) : w.cell? ⟨g, j, none⟩ = some (.int .i64 (-1)) := by
  have : (repN N k)[j]? = some (.int .i64 (-1)) := by
    unfold repN
    rw [List.getElem?_append_left (by simpa using hj)]
    simp [hj]
  have e : w.cell? ⟨g, j, none⟩ = (repN N k).toArray[j]? := Rw.cell (cs := (repN N k).toArray) h j
  rw [e]
  simpa using this
theorem RowN.put {w : World} {g N k : Nat} (h : RowN w g N k) (j : Nat) : RowN (w.setRow g (repN N j).toArray) g N j := setRow_heap w g _ _ _ _ h
theorem mulN64_0 (w : World) : Calls Tryd.prog 140 #[.int .u64 1, .int .u64 0] w fun e w' => e = .returned (.tuple #[.int .u64 0, .int .u64 0]) ∧ w = w' := by
  go_enter Tryd.func140, Tryd.ntmps140
  go_wp2_with fail
  go_ret2
  exact ⟨rfl, rfl⟩
theorem mulN_0 (w : World) : Calls Tryd.prog 124 #[.int .u64 1, .int .u64 0] w fun e w' => e = .returned (.tuple #[.int .u64 0, .int .u64 0]) ∧ w = w' := by
  go_enter Tryd.func124, Tryd.ntmps124
  go_wp2_with fail
  refine (mulN64_0 _).mono ?_
  rintro e w1 ⟨rfl, rfl⟩
  go_wp2_with fail
  go_ret2
  exact ⟨rfl, rfl⟩
theorem copyN_first_0 {w : World} {g g0 : Nat} (hr : RowN w g0 0 0) (_hc : w.cell? ⟨g, 0, none⟩ = some (.int .i64 (-1))) (ty : TypeId) :
    (Builtin.copy_ #[24, 24] ty #[.slice (some ⟨g0, 0, none⟩) 0 0, .slice (some ⟨g, 0, none⟩) 1 1]).run Tryd.prog w = .ok (.int .i64 0) (w.setRow g0 (repN 0 0).toArray) :=
  run_copy_row (P := Tryd.prog) w 24 24 ty 3 g0 0 0 0 ⟨g, 0, none⟩ 1 1 (repN 0 0).toArray 3 [] Tryd.underlying24 info_intsize hr rfl (by
    intro j v hj
    simp at hj) (by decide) (by intro v hv; simp at hv)
set_option maxHeartbeats 1000000 in
theorem repeat_0 (g : Nat) (w : World) (hg : g < w.heap.size) (hc : w.cell? ⟨g, 0, none⟩ = some (.int .i64 (-1))) :
    Calls Tryd.prog 100 #[.slice (some ⟨g, 0, none⟩) 1 1, .int .i64 0] w (GaveI w (List.replicate 0 (-1))) := by
  have hmk := makeI w 0 (by omega)
  have b2 : Below w.heap.size w (w.alloc (.cells (Array.replicate 0 (.int .i64 0)) 3)) := (Below.refl _ _).alloc (Nat.le_refl _) _
  have k2 : RowN (w.alloc (.cells (Array.replicate 0 (.int .i64 0)) 3)) w.heap.size 0 0 := Rw.new w 3 (Array.replicate 0 (.int .i64 0))
  have hc2 := (b2.cell (p := ⟨g, 0, none⟩) hg).trans hc
  obtain ⟨w2, hw2⟩ : ∃ w2, w.alloc (.cells (Array.replicate 0 (.int .i64 0)) 3) = w2 := ⟨_, rfl⟩
  rw [hw2] at hmk b2 k2 hc2
  obtain ⟨G, hG⟩ : ∃ G, w.heap.size = G := ⟨_, rfl⟩
  rw [hG] at hmk b2 k2
  simp at hmk
  have hcp := copyN_first_0 k2 hc2
  have k3 := k2.put 0
  have b3 : Below G w (w2.setRow G (repN 0 0).toArray) := below_setRow b2 (Nat.le_refl _) _
  obtain ⟨w3, hw3⟩ : ∃ w3, w2.setRow G (repN 0 0).toArray = w3 := ⟨_, rfl⟩
  rw [hw3] at hcp k3 b3
  clear hw2 hw3
  go_enter Tryd.func100, Tryd.ntmps100
  go_wp2_with fail
  refine (mulN_0 _).mono ?_
  rintro e w1 ⟨rfl, rfl⟩
  go_wp2_with fail
  clear k2 hc2 hmk hcp b2
  go_loopw [8] (fun v wr => ∃ k : Nat, (k = 0) ∧ v = .int .i64 k ∧ RowN wr G 0 k ∧ Below G w wr) (fun v _ => 0 - (intOf v).toNat)
  case atStart => exact ⟨0, rfl, rfl, k3, b3⟩
  case round =>
    clear k3 b3
    obtain ⟨k, hk, rfl, hr, bb⟩ := hrel
    subst hk
    · go_wp2_with fail
      go_ret
      refine ⟨_, rfl, ⟨by simp, .inr ⟨G, 0, (repN 0 0).toArray, by simp, by omega, hr, by simp, by unfold maxLen; omega, by decide, rfl⟩⟩, by rw [hG]; exact bb⟩
theorem mulN64_1 (w : World) : Calls Tryd.prog 140 #[.int .u64 1, .int .u64 1] w fun e w' => e = .returned (.tuple #[.int .u64 0, .int .u64 1]) ∧ w = w' := by
  go_enter Tryd.func140, Tryd.ntmps140
  go_wp2_with fail
  go_ret2
  exact ⟨rfl, rfl⟩
theorem mulN_1 (w : World) : Calls Tryd.prog 124 #[.int .u64 1, .int .u64 1] w fun e w' => e = .returned (.tuple #[.int .u64 0, .int .u64 1]) ∧ w = w' := by
  go_enter Tryd.func124, Tryd.ntmps124
  go_wp2_with fail
  refine (mulN64_1 _).mono ?_
  rintro e w1 ⟨rfl, rfl⟩
  go_wp2_with fail
  go_ret2
  exact ⟨rfl, rfl⟩
theorem copyN_first_1 {w : World} {g g0 : Nat} (hr : RowN w g0 1 0) (hc : w.cell? ⟨g, 0, none⟩ = some (.int .i64 (-1))) (ty : TypeId) :
    (Builtin.copy_ #[24, 24] ty #[.slice (some ⟨g0, 0, none⟩) 1 1, .slice (some ⟨g, 0, none⟩) 1 1]).run Tryd.prog w = .ok (.int .i64 1) (w.setRow g0 (repN 1 1).toArray) :=
  run_copy_row (P := Tryd.prog) w 24 24 ty 3 g0 0 1 1 ⟨g, 0, none⟩ 1 1 (repN 1 0).toArray 3 [.int .i64 (-1)] Tryd.underlying24 info_intsize hr rfl (by
    intro j v hj
    match j, hj with
    | 0, hj => simp at hj; subst hj; exact hc) (by decide) (by intro v hv; simp at hv; subst hv; rfl)
set_option maxHeartbeats 1000000 in
theorem repeat_1 (g : Nat) (w : World) (hg : g < w.heap.size) (hc : w.cell? ⟨g, 0, none⟩ = some (.int .i64 (-1))) :
    Calls Tryd.prog 100 #[.slice (some ⟨g, 0, none⟩) 1 1, .int .i64 1] w (GaveI w (List.replicate 1 (-1))) := by
  have hmk := makeI w 1 (by omega)
  have b2 : Below w.heap.size w (w.alloc (.cells (Array.replicate 1 (.int .i64 0)) 3)) := (Below.refl _ _).alloc (Nat.le_refl _) _
  have k2 : RowN (w.alloc (.cells (Array.replicate 1 (.int .i64 0)) 3)) w.heap.size 1 0 := Rw.new w 3 (Array.replicate 1 (.int .i64 0))
  have hc2 := (b2.cell (p := ⟨g, 0, none⟩) hg).trans hc
  obtain ⟨w2, hw2⟩ : ∃ w2, w.alloc (.cells (Array.replicate 1 (.int .i64 0)) 3) = w2 := ⟨_, rfl⟩
  rw [hw2] at hmk b2 k2 hc2
  obtain ⟨G, hG⟩ : ∃ G, w.heap.size = G := ⟨_, rfl⟩
  rw [hG] at hmk b2 k2
  simp at hmk
  have hcp := copyN_first_1 k2 hc2
  have k3 := k2.put 1
  have b3 : Below G w (w2.setRow G (repN 1 1).toArray) := below_setRow b2 (Nat.le_refl _) _
  obtain ⟨w3, hw3⟩ : ∃ w3, w2.setRow G (repN 1 1).toArray = w3 := ⟨_, rfl⟩
  rw [hw3] at hcp k3 b3
  clear hw2 hw3
  go_enter Tryd.func100, Tryd.ntmps100
  go_wp2_with fail
  refine (mulN_1 _).mono ?_
  rintro e w1 ⟨rfl, rfl⟩
  go_wp2_with fail
  clear k2 hc2 hmk hcp b2
  go_loopw [8] (fun v wr => ∃ k : Nat, (k = 1) ∧ v = .int .i64 k ∧ RowN wr G 1 k ∧ Below G w wr) (fun v _ => 1 - (intOf v).toNat)
  case atStart => exact ⟨1, rfl, rfl, k3, b3⟩
  case round =>
    clear k3 b3
    obtain ⟨k, hk, rfl, hr, bb⟩ := hrel
    subst hk
    · go_wp2_with fail
      go_ret
      refine ⟨_, rfl, ⟨by simp, .inr ⟨G, 1, (repN 1 1).toArray, by simp, by omega, hr, by simp, by unfold maxLen; omega, by decide, rfl⟩⟩, by rw [hG]; exact bb⟩
theorem mulN64_2 (w : World) : Calls Tryd.prog 140 #[.int .u64 1, .int .u64 2] w fun e w' => e = .returned (.tuple #[.int .u64 0, .int .u64 2]) ∧ w = w' := by
  go_enter Tryd.func140, Tryd.ntmps140
  go_wp2_with fail
  go_ret2
  exact ⟨rfl, rfl⟩
theorem mulN_2 (w : World) : Calls Tryd.prog 124 #[.int .u64 1, .int .u64 2] w fun e w' => e = .returned (.tuple #[.int .u64 0, .int .u64 2]) ∧ w = w' := by
  go_enter Tryd.func124, Tryd.ntmps124
  go_wp2_with fail
  refine (mulN64_2 _).mono ?_
  rintro e w1 ⟨rfl, rfl⟩
  go_wp2_with fail
  go_ret2
  exact ⟨rfl, rfl⟩
theorem copyN_first_2 {w : World} {g g0 : Nat} (hr : RowN w g0 2 0) (hc : w.cell? ⟨g, 0, none⟩ = some (.int .i64 (-1))) (ty : TypeId) :
    (Builtin.copy_ #[24, 24] ty #[.slice (some ⟨g0, 0, none⟩) 2 2, .slice (some ⟨g, 0, none⟩) 1 1]).run Tryd.prog w = .ok (.int .i64 1) (w.setRow g0 (repN 2 1).toArray) :=
  run_copy_row (P := Tryd.prog) w 24 24 ty 3 g0 0 2 2 ⟨g, 0, none⟩ 1 1 (repN 2 0).toArray 3 [.int .i64 (-1)] Tryd.underlying24 info_intsize hr rfl (by
    intro j v hj
    match j, hj with
    | 0, hj => simp at hj; subst hj; exact hc) (by decide) (by intro v hv; simp at hv; subst hv; rfl)
theorem copyN_2_1 {w : World} {g : Nat} (h : RowN w g 2 1) (ty : TypeId) :
    (Builtin.copy_ #[24, 24] ty #[.slice (some ⟨g, 1, none⟩) 1 1, .slice (some ⟨g, 0, none⟩) 1 2]).run Tryd.prog w = .ok (.int .i64 1) (w.setRow g (repN 2 2).toArray) :=
  run_copy_row (P := Tryd.prog) w 24 24 ty 3 g 1 1 1 ⟨g, 0, none⟩ 1 2 (repN 2 1).toArray 3 [.int .i64 (-1)] Tryd.underlying24 info_intsize h rfl (by
    intro j v hj
    match j, hj with
    | 0, hj => simp at hj; subst hj; exact h.cell (j := 0) (by omega)) (by decide) (by intro v hv; simp at hv; subst hv; rfl)
set_option maxHeartbeats 1000000 in
theorem repeat_2 (g : Nat) (w : World) (hg : g < w.heap.size) (hc : w.cell? ⟨g, 0, none⟩ = some (.int .i64 (-1))) :
    Calls Tryd.prog 100 #[.slice (some ⟨g, 0, none⟩) 1 1, .int .i64 2] w (GaveI w (List.replicate 2 (-1))) := by
  have hmk := makeI w 2 (by omega)
  have b2 : Below w.heap.size w (w.alloc (.cells (Array.replicate 2 (.int .i64 0)) 3)) := (Below.refl _ _).alloc (Nat.le_refl _) _
  have k2 : RowN (w.alloc (.cells (Array.replicate 2 (.int .i64 0)) 3)) w.heap.size 2 0 := Rw.new w 3 (Array.replicate 2 (.int .i64 0))
  have hc2 := (b2.cell (p := ⟨g, 0, none⟩) hg).trans hc
  obtain ⟨w2, hw2⟩ : ∃ w2, w.alloc (.cells (Array.replicate 2 (.int .i64 0)) 3) = w2 := ⟨_, rfl⟩
  rw [hw2] at hmk b2 k2 hc2
  obtain ⟨G, hG⟩ : ∃ G, w.heap.size = G := ⟨_, rfl⟩
  rw [hG] at hmk b2 k2
  simp at hmk
  have hcp := copyN_first_2 k2 hc2
  have k3 := k2.put 1
  have b3 : Below G w (w2.setRow G (repN 2 1).toArray) := below_setRow b2 (Nat.le_refl _) _
  obtain ⟨w3, hw3⟩ : ∃ w3, w2.setRow G (repN 2 1).toArray = w3 := ⟨_, rfl⟩
  rw [hw3] at hcp k3 b3
  clear hw2 hw3
  go_enter Tryd.func100, Tryd.ntmps100
  go_wp2_with fail
  refine (mulN_2 _).mono ?_
  rintro e w1 ⟨rfl, rfl⟩
  go_wp2_with fail
  clear k2 hc2 hmk hcp b2
  go_loopw [8] (fun v wr => ∃ k : Nat, (k = 1 ∨ k = 2) ∧ v = .int .i64 k ∧ RowN wr G 2 k ∧ Below G w wr) (fun v _ => 2 - (intOf v).toNat)
  case atStart => exact ⟨1, .inl rfl, rfl, k3, b3⟩
  case round =>
    clear k3 b3
    obtain ⟨k, hk, rfl, hr, bb⟩ := hrel
    rcases hk with rfl | rfl
    · have hcp := copyN_2_1 (w := wr.drew) hr
      have kn := RowN.put (w := wr.drew) hr 2
      have bn : Below G w (wr.drew.setRow G (repN 2 2).toArray) := below_setRow bb.drew (Nat.le_refl _) _
      obtain ⟨w3, hw3⟩ : ∃ w3, wr.drew.setRow G (repN 2 2).toArray = w3 := ⟨_, rfl⟩
      rw [hw3] at hcp kn bn
      clear hw3
      go_wp2_with fail
      go_region
      go_wp2
      go_roundw
      case rel => exact ⟨2, .inr rfl, rfl, kn, bn⟩
      case measure => simp [intOf]
    · go_wp2_with fail
      go_ret
      refine ⟨_, rfl, ⟨by simp, .inr ⟨G, 2, (repN 2 2).toArray, by simp, by omega, hr, by simp, by unfold maxLen; omega, by decide, rfl⟩⟩, by rw [hG]; exact bb⟩
theorem mulN64_3 (w : World) : Calls Tryd.prog 140 #[.int .u64 1, .int .u64 3] w fun e w' => e = .returned (.tuple #[.int .u64 0, .int .u64 3]) ∧ w = w' := by
  go_enter Tryd.func140, Tryd.ntmps140
  go_wp2_with fail
  go_ret2
  exact ⟨rfl, rfl⟩
theorem mulN_3 (w : World) : Calls Tryd.prog 124 #[.int .u64 1, .int .u64 3] w fun e w' => e = .returned (.tuple #[.int .u64 0, .int .u64 3]) ∧ w = w' := by
  go_enter Tryd.func124, Tryd.ntmps124
  go_wp2_with fail
  refine (mulN64_3 _).mono ?_
  rintro e w1 ⟨rfl, rfl⟩
  go_wp2_with fail
  go_ret2
  exact ⟨rfl, rfl⟩
theorem copyN_first_3 {w : World} {g g0 : Nat} (hr : RowN w g0 3 0) (hc : w.cell? ⟨g, 0, none⟩ = some (.int .i64 (-1))) (ty : TypeId) :
    (Builtin.copy_ #[24, 24] ty #[.slice (some ⟨g0, 0, none⟩) 3 3, .slice (some ⟨g, 0, none⟩) 1 1]).run Tryd.prog w = .ok (.int .i64 1) (w.setRow g0 (repN 3 1).toArray) :=
  run_copy_row (P := Tryd.prog) w 24 24 ty 3 g0 0 3 3 ⟨g, 0, none⟩ 1 1 (repN 3 0).toArray 3 [.int .i64 (-1)] Tryd.underlying24 info_intsize hr rfl (by
    intro j v hj
    match j, hj with
    | 0, hj => simp at hj; subst hj; exact hc) (by decide) (by intro v hv; simp at hv; subst hv; rfl)
theorem copyN_3_1 {w : World} {g : Nat} (h : RowN w g 3 1) (ty : TypeId) :
    (Builtin.copy_ #[24, 24] ty #[.slice (some ⟨g, 1, none⟩) 2 2, .slice (some ⟨g, 0, none⟩) 1 3]).run Tryd.prog w = .ok (.int .i64 1) (w.setRow g (repN 3 2).toArray) :=
  run_copy_row (P := Tryd.prog) w 24 24 ty 3 g 1 2 2 ⟨g, 0, none⟩ 1 3 (repN 3 1).toArray 3 [.int .i64 (-1)] Tryd.underlying24 info_intsize h rfl (by
    intro j v hj
    match j, hj with
    | 0, hj => simp at hj; subst hj; exact h.cell (j := 0) (by omega)) (by decide) (by intro v hv; simp at hv; subst hv; rfl)
theorem copyN_3_2 {w : World} {g : Nat} (h : RowN w g 3 2) (ty : TypeId) :
    (Builtin.copy_ #[24, 24] ty #[.slice (some ⟨g, 2, none⟩) 1 1, .slice (some ⟨g, 0, none⟩) 2 3]).run Tryd.prog w = .ok (.int .i64 1) (w.setRow g (repN 3 3).toArray) :=
  run_copy_row (P := Tryd.prog) w 24 24 ty 3 g 2 1 1 ⟨g, 0, none⟩ 2 3 (repN 3 2).toArray 3 [.int .i64 (-1)] Tryd.underlying24 info_intsize h rfl (by
    intro j v hj
    match j, hj with
    | 0, hj => simp at hj; subst hj; exact h.cell (j := 0) (by omega)) (by decide) (by intro v hv; simp at hv; subst hv; rfl)
set_option maxHeartbeats 1000000 in
theorem repeat_3 (g : Nat) (w : World) (hg : g < w.heap.size) (hc : w.cell? ⟨g, 0, none⟩ = some (.int .i64 (-1))) :
    Calls Tryd.prog 100 #[.slice (some ⟨g, 0, none⟩) 1 1, .int .i64 3] w (GaveI w (List.replicate 3 (-1))) := by
  have hmk := makeI w 3 (by omega)
  have b2 : Below w.heap.size w (w.alloc (.cells (Array.replicate 3 (.int .i64 0)) 3)) := (Below.refl _ _).alloc (Nat.le_refl _) _
  have k2 : RowN (w.alloc (.cells (Array.replicate 3 (.int .i64 0)) 3)) w.heap.size 3 0 := Rw.new w 3 (Array.replicate 3 (.int .i64 0))
  have hc2 := (b2.cell (p := ⟨g, 0, none⟩) hg).trans hc
  obtain ⟨w2, hw2⟩ : ∃ w2, w.alloc (.cells (Array.replicate 3 (.int .i64 0)) 3) = w2 := ⟨_, rfl⟩
  rw [hw2] at hmk b2 k2 hc2
  obtain ⟨G, hG⟩ : ∃ G, w.heap.size = G := ⟨_, rfl⟩
  rw [hG] at hmk b2 k2
  simp at hmk
  have hcp := copyN_first_3 k2 hc2
  have k3 := k2.put 1
  have b3 : Below G w (w2.setRow G (repN 3 1).toArray) := below_setRow b2 (Nat.le_refl _) _
  obtain ⟨w3, hw3⟩ : ∃ w3, w2.setRow G (repN 3 1).toArray = w3 := ⟨_, rfl⟩
  rw [hw3] at hcp k3 b3
  clear hw2 hw3
  go_enter Tryd.func100, Tryd.ntmps100
  go_wp2_with fail
  refine (mulN_3 _).mono ?_
  rintro e w1 ⟨rfl, rfl⟩
  go_wp2_with fail
  clear k2 hc2 hmk hcp b2
  go_loopw [8] (fun v wr => ∃ k : Nat, (k = 1 ∨ k = 2 ∨ k = 3) ∧ v = .int .i64 k ∧ RowN wr G 3 k ∧ Below G w wr) (fun v _ => 3 - (intOf v).toNat)
  case atStart => exact ⟨1, .inl rfl, rfl, k3, b3⟩
  case round =>
    clear k3 b3
    obtain ⟨k, hk, rfl, hr, bb⟩ := hrel
    rcases hk with rfl | rfl | rfl
    · have hcp := copyN_3_1 (w := wr.drew) hr
      have kn := RowN.put (w := wr.drew) hr 2
      have bn : Below G w (wr.drew.setRow G (repN 3 2).toArray) := below_setRow bb.drew (Nat.le_refl _) _
      obtain ⟨w3, hw3⟩ : ∃ w3, wr.drew.setRow G (repN 3 2).toArray = w3 := ⟨_, rfl⟩
      rw [hw3] at hcp kn bn
      clear hw3
      go_wp2_with fail
      go_region
      go_wp2
      go_roundw
      case rel => exact ⟨2, .inr (.inl rfl), rfl, kn, bn⟩
      case measure => simp [intOf]
    · have hcp := copyN_3_2 (w := wr.drew) hr
      have kn := RowN.put (w := wr.drew) hr 3
      have bn : Below G w (wr.drew.setRow G (repN 3 3).toArray) := below_setRow bb.drew (Nat.le_refl _) _
      obtain ⟨w3, hw3⟩ : ∃ w3, wr.drew.setRow G (repN 3 3).toArray = w3 := ⟨_, rfl⟩
      rw [hw3] at hcp kn bn
      clear hw3
      go_wp2_with fail
      go_region
      go_wp2
      go_roundw
      case rel => exact ⟨3, .inr (.inr rfl), rfl, kn, bn⟩
      case measure => simp [intOf]
    · go_wp2_with fail
      go_ret
      refine ⟨_, rfl, ⟨by simp, .inr ⟨G, 3, (repN 3 3).toArray, by simp, by omega, hr, by simp, by unfold maxLen; omega, by decide, rfl⟩⟩, by rw [hG]; exact bb⟩
theorem repeat_ones (n : Nat) (hn : n ≤ 3) (g : Nat) (w : World) (hg : g < w.heap.size) (hc : w.cell? ⟨g, 0, none⟩ = some (.int .i64 (-1))) :
    Calls Tryd.prog 100 #[.slice (some ⟨g, 0, none⟩) 1 1, .int .i64 n] w (GaveI w (List.replicate n (-1))) := by
  obtain rfl | rfl | rfl | rfl : n = 0 ∨ n = 1 ∨ n = 2 ∨ n = 3 := by omega
  · exact repeat_0 g w hg hc
  · exact repeat_1 g w hg hc
  · exact repeat_2 g w hg hc
  · exact repeat_3 g w hg hc
end Go.Proofs.YtfgdenmlfloloaaDoor

namespace Go.Proofs.YtfgdenmlfloloaaDoor
open Go.RowKit
set_option maxRecDepth 100000
set_option maxHeartbeats 4000000 in
theorem madeCell_any {ob : Nat} {op a oc : Int} (hb3 : ob ≤ 3) (w : World) : Calls Tryd.prog 106 #[cmV ⟨op, a, ob, oc⟩] w fun e w' => ∃ v8, e = .returned (.agg #[.bool true, .int .i64 oc, v8]) ∧ OwnI w' w.heap.size v8 (List.replicate ob (-1)) ∧ Below w.heap.size w w' := by
  have B2 : Below w.heap.size w ((w.alloc (.cells #[.int .i64 op, .int .i64 a, .int .i64 ob, .int .i64 oc] 36)).alloc (.cells #[.bool false, .int .i64 0, .slice none 0 0] 43)) := ((Below.refl _ _).alloc (Nat.le_refl _) _).alloc (by simp) _
  have Q1 := (Rw.new w 36 #[.int .i64 op, .int .i64 a, .int .i64 ob, .int .i64 oc]).alloc (.cells #[.bool false, .int .i64 0, .slice none 0 0] 43)
  have Q2 := Rw.new (w.alloc (.cells #[.int .i64 op, .int .i64 a, .int .i64 ob, .int .i64 oc] 36)) 43 #[.bool false, .int .i64 0, .slice none 0 0]
  simp only [World.size_alloc] at Q2
  go_enter Tryd.func106, Tryd.ntmps106
  go_upto_region 1 with fail
  generalize ((w.alloc (.cells #[.int .i64 op, .int .i64 a, .int .i64 ob, .int .i64 oc] 36)).alloc (.cells #[.bool false, .int .i64 0, .slice none 0 0] 43)) = w2 at B2 Q1 Q2 ⊢
  obtain ⟨q, hq⟩ : ∃ q, w.heap.size = q := ⟨_, rfl⟩
  rw [hq] at B2 Q1 Q2 ⊢
  have HQ := Lib.hid hq
  clear hq
  have hql := Q1.lt
  have hrl := Q2.lt
  have y2 : w2.cell? ⟨q, 2, none⟩ = some (.int .i64 ob) := Q1.cell 2
  have y3 : w2.cell? ⟨q, 3, none⟩ = some (.int .i64 oc) := Q1.cell 3
  refine wp_region_inv (by kernel_rfl) (by kernel_rfl) (fun L ac ww => ∃ t3 t4 t5 t6 t7 t8 t9 : Value, ac = { tmps := #[cmV { op := op, a := a, b := ↑ob, c := oc }, Value.pointer (some { block := q, off := 0 }), Value.pointer (some { block := q + 1, off := 0 }), t3, t4, t5, t6, t7, t8, t9], defers := [] } ∧ (L 7 = false → Below w2.heap.size w2 ww) ∧ (L 0 = true → t3 = .pointer (some ⟨q, 3, none⟩)) ∧ (L 1 = true → t4 = .int .i64 oc) ∧ (L 2 = true → ∃ g2, t5 = .slice (some ⟨g2, 0, none⟩) 1 1 ∧ (L 5 = false → g2 < ww.heap.size ∧ ww.cell? ⟨g2, 0, none⟩ = some (.int .i64 (-1)))) ∧ (L 3 = true → t6 = .pointer (some ⟨q, 2, none⟩)) ∧ (L 4 = true → t7 = .int .i64 ob) ∧ (L 5 = true → ∃ A8 c8, t8 = .slice A8 ob c8 ∧ (L 7 = false → OwnI ww w2.heap.size t8 (List.replicate ob (-1)))) ∧ (L 6 = true → t9 = .agg #[.bool true, .int .i64 oc, t8] ∧ L 5 = true) ∧ (L 7 = true → (∀ q, q < 7 → L q = true) ∧ ∃ wp, ww = ((wp.setCell ⟨q + 1, 0, none⟩ (.bool true)).setCell ⟨q + 1, 1, none⟩ (.int .i64 oc)).setCell ⟨q + 1, 2, none⟩ t8 ∧ Below w2.heap.size w2 wp ∧ OwnI wp w2.heap.size t8 (List.replicate ob (-1)))) ?h0 ?hstep ?hdone
  case h0 => exact ⟨_, _, _, _, _, _, _, rfl, fun _ => (Below.refl _ _).drew, (fun h => absurd h Bool.false_ne_true), (fun h => absurd h Bool.false_ne_true), (fun h => absurd h Bool.false_ne_true), (fun h => absurd h Bool.false_ne_true), (fun h => absurd h Bool.false_ne_true), (fun h => absurd h Bool.false_ne_true), (fun h => absurd h Bool.false_ne_true), (fun h => absurd h Bool.false_ne_true)⟩
  case hstep =>
    rintro L ac ww i o ho hL hd ⟨t3, t4, t5, t6, t7, t8, t9, rfl, I0, f0, f1, f2, f3, f4, f5, f6, f7⟩
    have hi : i < 8 := (Array.getElem?_eq_some_iff.1 ho).1
    obtain rfl | rfl | rfl | rfl | rfl | rfl | rfl | rfl : i = 0 ∨ i = 1 ∨ i = 2 ∨ i = 3 ∨ i = 4 ∨ i = 5 ∨ i = 6 ∨ i = 7 := by omega
    · obtain rfl := Option.some.inj ho
      have hL7 : L 7 = false := by
        cases e : L 7
        · rfl
        · exact absurd ((f7 e).1 0 (by decide)) (by rw [hL]; decide)
      have J := I0 hL7
      refine wpOp_step rfl (fun K' hK => ?_)
      go_simp
      refine hK _ _ ?_
      exact ⟨_, _, _, _, _, _, _, rfl, (fun _ => J), (fun _ => rfl), (kp f1), (fun h => by
        obtain ⟨g2, e2, r2⟩ := f2 (upd_ne h (by decide))
        exact ⟨g2, e2, fun h5 => r2 (by rw [upd_other (by decide)] at h5; exact h5)⟩), (kp f3), (kp f4), (fun h => by
        obtain ⟨A8, c8, e8, r8⟩ := f5 (upd_ne h (by decide))
        exact ⟨A8, c8, e8, fun h7 => r8 (by rw [upd_other (by decide)] at h7; exact h7)⟩), (fun h => ⟨(f6 (upd_ne h (by decide))).1, upd_mono (f6 (upd_ne h (by decide))).2⟩), (fun h => absurd hL7 (by rw [upd_ne h (by decide)]; decide))⟩
    · obtain rfl := Option.some.inj ho
      have g0 := f0 (hd ⟨0, .data⟩ (by simp) rfl)
      subst g0
      have hL7 : L 7 = false := by
        cases e : L 7
        · rfl
        · exact absurd ((f7 e).1 1 (by decide)) (by rw [hL]; decide)
      have J := I0 hL7
      have z3 : ww.cell? ⟨q, 3, none⟩ = some (.int .i64 oc) := (J.cell (p := ⟨q, 3, none⟩) hql).trans y3
      refine wpOp_step rfl (fun K' hK => ?_)
      go_simp
      refine hK _ _ ?_
      exact ⟨_, _, _, _, _, _, _, rfl, (fun _ => J), (kp f0), (fun _ => rfl), (fun h => by
        obtain ⟨g2, e2, r2⟩ := f2 (upd_ne h (by decide))
        exact ⟨g2, e2, fun h5 => r2 (by rw [upd_other (by decide)] at h5; exact h5)⟩), (kp f3), (kp f4), (fun h => by
        obtain ⟨A8, c8, e8, r8⟩ := f5 (upd_ne h (by decide))
        exact ⟨A8, c8, e8, fun h7 => r8 (by rw [upd_other (by decide)] at h7; exact h7)⟩), (fun h => ⟨(f6 (upd_ne h (by decide))).1, upd_mono (f6 (upd_ne h (by decide))).2⟩), (fun h => absurd hL7 (by rw [upd_ne h (by decide)]; decide))⟩
    · obtain rfl := Option.some.inj ho
      have hL7 : L 7 = false := by
        cases e : L 7
        · rfl
        · exact absurd ((f7 e).1 2 (by decide)) (by rw [hL]; decide)
      have J := I0 hL7
      have b5 : Below ww.heap.size ww (ww.alloc (.cells #[.int .i64 (-1)] 3)) := (Below.refl _ _).alloc (Nat.le_refl _) _
      have c7 := (Rw.new ww 3 #[.int .i64 (-1)]).cell 0
      refine wpOp_step rfl (fun K' hK => ?_)
      go_simp
      refine hK _ _ ?_
      exact ⟨_, _, _, _, _, _, _, rfl, (fun _ => J.alloc J.size _), (kp f0), (kp f1), (fun _ => ⟨_, rfl, fun _ => ⟨by simp, c7⟩⟩), (kp f3), (kp f4), (fun h => by
        obtain ⟨A8, c8, e8, r8⟩ := f5 (upd_ne h (by decide))
        exact ⟨A8, c8, e8, fun h7 => (r8 hL7).below b5 (Nat.le_refl _)⟩), (fun h => ⟨(f6 (upd_ne h (by decide))).1, upd_mono (f6 (upd_ne h (by decide))).2⟩), (fun h => absurd hL7 (by rw [upd_ne h (by decide)]; decide))⟩
    · obtain rfl := Option.some.inj ho
      have hL7 : L 7 = false := by
        cases e : L 7
        · rfl
        · exact absurd ((f7 e).1 3 (by decide)) (by rw [hL]; decide)
      have J := I0 hL7
      refine wpOp_step rfl (fun K' hK => ?_)
      go_simp
      refine hK _ _ ?_
      exact ⟨_, _, _, _, _, _, _, rfl, (fun _ => J), (kp f0), (kp f1), (fun h => by
        obtain ⟨g2, e2, r2⟩ := f2 (upd_ne h (by decide))
        exact ⟨g2, e2, fun h5 => r2 (by rw [upd_other (by decide)] at h5; exact h5)⟩), (fun _ => rfl), (kp f4), (fun h => by
        obtain ⟨A8, c8, e8, r8⟩ := f5 (upd_ne h (by decide))
        exact ⟨A8, c8, e8, fun h7 => r8 (by rw [upd_other (by decide)] at h7; exact h7)⟩), (fun h => ⟨(f6 (upd_ne h (by decide))).1, upd_mono (f6 (upd_ne h (by decide))).2⟩), (fun h => absurd hL7 (by rw [upd_ne h (by decide)]; decide))⟩
    · obtain rfl := Option.some.inj ho
      have g3 := f3 (hd ⟨3, .data⟩ (by simp) rfl)
      subst g3
      have hL7 : L 7 = false := by
        cases e : L 7
        · rfl
        · exact absurd ((f7 e).1 4 (by decide)) (by rw [hL]; decide)
      have J := I0 hL7
      have z2 : ww.cell? ⟨q, 2, none⟩ = some (.int .i64 ob) := (J.cell (p := ⟨q, 2, none⟩) hql).trans y2
      refine wpOp_step rfl (fun K' hK => ?_)
      go_simp
      refine hK _ _ ?_
      exact ⟨_, _, _, _, _, _, _, rfl, (fun _ => J), (kp f0), (kp f1), (fun h => by
        obtain ⟨g2, e2, r2⟩ := f2 (upd_ne h (by decide))
        exact ⟨g2, e2, fun h5 => r2 (by rw [upd_other (by decide)] at h5; exact h5)⟩), (kp f3), (fun _ => rfl), (fun h => by
        obtain ⟨A8, c8, e8, r8⟩ := f5 (upd_ne h (by decide))
        exact ⟨A8, c8, e8, fun h7 => r8 (by rw [upd_other (by decide)] at h7; exact h7)⟩), (fun h => ⟨(f6 (upd_ne h (by decide))).1, upd_mono (f6 (upd_ne h (by decide))).2⟩), (fun h => absurd hL7 (by rw [upd_ne h (by decide)]; decide))⟩
    · obtain rfl := Option.some.inj ho
      have g2 := f2 (hd ⟨2, .data⟩ (by simp) rfl)
      have g4 := f4 (hd ⟨4, .data⟩ (by simp) rfl)
      subst g4
      have hL7 : L 7 = false := by
        cases e : L 7
        · rfl
        · exact absurd ((f7 e).1 5 (by decide)) (by rw [hL]; decide)
      have J := I0 hL7
      obtain ⟨g2, e2, r2⟩ := g2
      obtain ⟨hg2, hc2⟩ := r2 hL
      subst e2
      refine wpOp_step rfl (fun K' hK => ?_)
      go_simp
      refine (repeat_ones ob hb3 g2 ww hg2 hc2).mono ?_
      rintro e w' ⟨v1, rfl, o1, b5⟩
      obtain ⟨A8, c8, e8, -⟩ := o1.form
      rw [List.length_replicate] at e8
      refine hK _ _ ?_
      exact ⟨_, _, _, _, _, _, _, rfl, (fun _ => J.trans (b5.mono J.size)), (kp f0), (kp f1), (fun _ => ⟨g2, rfl, fun h => absurd h (by rw [upd_self]; decide)⟩), (kp f3), (kp f4), (fun _ => ⟨A8, c8, e8, fun _ => o1.base J.size⟩), (fun h => absurd (f6 (upd_ne h (by decide))).2 (by rw [hL]; decide)), (fun h => absurd hL7 (by rw [upd_ne h (by decide)]; decide))⟩
    · obtain rfl := Option.some.inj ho
      have g1 := f1 (hd ⟨1, .data⟩ (by simp) rfl)
      have g5 := f5 (hd ⟨5, .data⟩ (by simp) rfl)
      subst g1
      have hL7 : L 7 = false := by
        cases e : L 7
        · rfl
        · exact absurd ((f7 e).1 6 (by decide)) (by rw [hL]; decide)
      have J := I0 hL7
      have l5 := Lib.hid (hd ⟨5, .data⟩ (by simp) rfl)
      obtain ⟨A8, c8, e8, r8⟩ := g5
      subst e8
      refine wpOp_step rfl (fun K' hK => ?_)
      go_simp
      refine hK _ _ ?_
      exact ⟨_, _, _, _, _, _, _, rfl, (fun _ => J), (kp f0), (kp f1), (fun h => by
        obtain ⟨g2, e2, r2⟩ := f2 (upd_ne h (by decide))
        exact ⟨g2, e2, fun h5 => r2 (by rw [upd_other (by decide)] at h5; exact h5)⟩), (kp f3), (kp f4), (fun _ => ⟨A8, c8, rfl, fun h7 => r8 (by rw [upd_other (by decide)] at h7; exact h7)⟩), (fun _ => ⟨rfl, upd_mono l5.out⟩), (fun h => absurd hL7 (by rw [upd_ne h (by decide)]; decide))⟩
    · obtain rfl := Option.some.inj ho
      have g6 := f6 (hd ⟨6, .data⟩ (by simp) rfl)
      have lq : Hid (∀ q, q < 7 → L q = true) := Lib.hid (by
        intro q hq
        obtain rfl | rfl | rfl | rfl | rfl | rfl | rfl : q = 0 ∨ q = 1 ∨ q = 2 ∨ q = 3 ∨ q = 4 ∨ q = 5 ∨ q = 6 := by omega
        · exact hd ⟨0, .phase⟩ (by simp) rfl
        · exact hd ⟨1, .phase⟩ (by simp) rfl
        · exact hd ⟨2, .phase⟩ (by simp) rfl
        · exact hd ⟨3, .phase⟩ (by simp) rfl
        · exact hd ⟨4, .phase⟩ (by simp) rfl
        · exact hd ⟨5, .phase⟩ (by simp) rfl
        · exact hd ⟨6, .phase⟩ (by simp) rfl)
      have J := I0 hL
      obtain ⟨e9, -⟩ := g6
      subst e9
      obtain ⟨A8, c8, e8, r8⟩ := f5 (lq.out 5 (by decide))
      subst e8
      have o8 := r8 hL
      have P := Q2.keep J hrl
      have zf0 : ww.frozen? ⟨q + 1, 0, none⟩ = false := P.frozen 0
      have zf1 : ww.frozen? ⟨q + 1, 1, none⟩ = false := P.frozen 1
      have zf2 : ww.frozen? ⟨q + 1, 2, none⟩ = false := P.frozen 2
      have zc0 : ww.cell? ⟨q + 1, 0, none⟩ = some (.bool false) := P.cell 0
      have zc1 : ww.cell? ⟨q + 1, 1, none⟩ = some (.int .i64 0) := P.cell 1
      have zc2 : ww.cell? ⟨q + 1, 2, none⟩ = some (.slice none 0 0) := P.cell 2
      refine wpOp_step rfl (fun K' hK => ?_)
      go_simp
      refine hK _ _ ?_
      exact ⟨_, _, _, _, _, _, _, rfl, (fun h => absurd h (by rw [upd_self]; decide)), (kp f0), (kp f1), (fun h => by
        obtain ⟨g2, e2, r2⟩ := f2 (upd_ne h (by decide))
        exact ⟨g2, e2, fun h5 => absurd (lq.out 5 (by decide)) (by rw [upd_other (by decide)] at h5; rw [h5]; decide)⟩), (kp f3), (kp f4), (fun _ => ⟨A8, c8, rfl, fun h => absurd h (by rw [upd_self]; decide)⟩), (fun _ => ⟨rfl, upd_mono (lq.out 5 (by decide))⟩), (fun _ => ⟨fun q hq => upd_mono (lq.out q hq), ww, rfl, J, o8⟩)⟩
  case hdone =>
    rintro L ac ww hall ⟨t3, t4, t5, t6, t7, t8, t9, rfl, I0, f0, f1, f2, f3, f4, f5, f6, f7⟩
    have e0 := f0 (hall 0 (by decide))
    have e1 := f1 (hall 1 (by decide))
    have e2 := f2 (hall 2 (by decide))
    have e3 := f3 (hall 3 (by decide))
    have e4 := f4 (hall 4 (by decide))
    have e5 := f5 (hall 5 (by decide))
    have e6 := f6 (hall 6 (by decide))
    have e7 := f7 (hall 7 (by decide))
    clear f0 f1 f2 f3 f4 f5 f6 f7
    obtain ⟨-, wp, rfl, r1, r2⟩ := e7
    obtain ⟨A8, c8, rfl, -⟩ := e5
    have P := Q2.keep r1 hrl
    have P4 := ((P.put 0 (.bool true)).put 1 (.int .i64 oc)).put 2 (.slice A8 ob c8)
    have s8 : (((wp.setCell ⟨q + 1, 0, none⟩ (.bool true)).setCell ⟨q + 1, 1, none⟩ (.int .i64 oc)).setCell ⟨q + 1, 2, none⟩ (.slice A8 ob c8)).cell? ⟨q + 1, 0, none⟩ = some (.bool true) := P4.cell 0
    have s9 : (((wp.setCell ⟨q + 1, 0, none⟩ (.bool true)).setCell ⟨q + 1, 1, none⟩ (.int .i64 oc)).setCell ⟨q + 1, 2, none⟩ (.slice A8 ob c8)).cell? ⟨q + 1, 1, none⟩ = some (.int .i64 oc) := P4.cell 1
    have s10 : (((wp.setCell ⟨q + 1, 0, none⟩ (.bool true)).setCell ⟨q + 1, 1, none⟩ (.int .i64 oc)).setCell ⟨q + 1, 2, none⟩ (.slice A8 ob c8)).cell? ⟨q + 1, 2, none⟩ = some (.slice A8 ob c8) := P4.cell 2
    have BF : Below q w (((wp.setCell ⟨q + 1, 0, none⟩ (.bool true)).setCell ⟨q + 1, 1, none⟩ (.int .i64 oc)).setCell ⟨q + 1, 2, none⟩ (.slice A8 ob c8)) := (((B2.trans (r1.mono (by omega))).setCell (p := ⟨q + 1, 0, none⟩) (by show q ≤ q + 1; omega) _).setCell (p := ⟨q + 1, 1, none⟩) (by show q ≤ q + 1; omega) _).setCell (p := ⟨q + 1, 2, none⟩) (by show q ≤ q + 1; omega) _
    have ne8 : (Value.slice A8 ob c8).ownBlock = none ∨ (Value.slice A8 ob c8).ownBlock ≠ some (q + 1) := by
      cases e : (Value.slice A8 ob c8).ownBlock with
      | none => exact .inl rfl
      | some k =>
        right
        intro e'
        have := (World.ownsRow.lt r2 k e).1
        have := Option.some.inj e'
        omega
    have OF := ((r2.far (put_any wp (q + 1) 0 (.bool true)) ne8).far (put_any _ (q + 1) 1 (.int .i64 oc)) ne8).far (put_any _ (q + 1) 2 (.slice A8 ob c8)) ne8
    clear I0 e0 e1 e2 e3 e4 e6 hall r1 r2 P P4 ne8
    go_wp2_with fail
    exact bodyPost_ret (v := .agg #[.bool true, .int .i64 oc, .slice A8 ob c8]) (by simp [results, Tryd.results106, go_sem, *]) rfl ⟨_, rfl, OF.base (by have := HQ.out; omega), HQ.out ▸ BF⟩
set_option maxHeartbeats 4000000 in
theorem exec_new {a ob : Nat} {oc : Int} {h : Hp} (hv : Hps.validH h = true) (ha : a < 4) (hb3 : ob ≤ 3) : ExecF 127 ⟨1, a, ob, oc⟩ h := by
  intro w0 w1 b vc vr rvs S0
  have hr4 := (Hps.valid_iff.1 hv).2.2.1
  have h40 := (Hps.valid_iff.1 hv).2.1
  have ham : (a : Int) < 4 := by omega
  obtain ⟨n, hn⟩ : ∃ n, h.cs.length = n := ⟨_, rfl⟩
  have HF := Lib.hid (show Hps.doH h ⟨1, a, ob, oc⟩ h.cs.length = ⟨h.cs ++ [⟨true, oc, List.replicate ob (-1)⟩], h.rt.set a (h.cs.length : Int)⟩ by simp [Hps.doH, Hps.putCl, Hps.newCl])
  have HL := Lib.hid hr4
  have HN := Lib.hid hn
  obtain ⟨A, c, gr, d, rfl, rfl, -⟩ := S0.form (by omega)
  rw [hr4, hn] at S0
  rw [hn] at h40
  have S := S0.up ((Below.refl w1.heap.size w1).alloc (Nat.le_refl _) (.cells #[.int .i64 1, .int .i64 a, .int .i64 ob, .int .i64 oc] 36))
  have Q := Rw.new w1 36 #[.int .i64 1, .int .i64 a, .int .i64 ob, .int .i64 oc]
  have QW : w0.heap.size ≤ w1.heap.size := S0.low.size
  have QB := S0.box.lt
  have QR : gr < w1.heap.size := (S0.own.blocks (v := .slice (some ⟨gr, 0, none⟩) 4 d) (by simp) rfl).2
  clear S0 hr4 hv hn
  go_enter Tryd.func127, Tryd.ntmps127
  go_upto_region 1 with fail
  generalize w1.alloc (.cells #[.int .i64 1, .int .i64 a, .int .i64 ob, .int .i64 oc] 36) = w2 at S Q ⊢
  generalize w1.heap.size = q at Q QW QB QR ⊢
  have y1 : w2.cell? ⟨q, 1, none⟩ = some (.int .i64 a) := Q.cell 1
  have x0 : w2.cell? ⟨b, 0, none⟩ = some (.slice A n c) := S.box.cell 0
  have x1 : w2.cell? ⟨b, 1, none⟩ = some (.slice (some ⟨gr, 0, none⟩) 4 d) := S.box.cell 1
  have SS := Lib.hid S
  have QQ := Lib.hid Q
  clear S Q
  go_still_tail 12, (by kernel_rfl)
  change wpList _ _ _ _ _ w2.drew
  have S4 := SS.out.drew
  have Q4 := QQ.out.keep (Below.refl _ w2).drew QQ.out.lt
  generalize w2.drew = w4 at S4 Q4 ⊢
  obtain ⟨xo, hxo, cr⟩ := S4.own.roots.cell_at (j := a) (by omega)
  have fz : w4.frozen? ⟨gr, a, none⟩ = false := S4.own.roots.frozen HL.out a
  have S5 := S4.root (i := a) HL.out (n : Int)
  have Q5 := Q4.other (g' := gr) (i := a) (by omega) (.int .i64 (n : Int))
  clear S4 Q4 SS QQ y1 x0 x1
  go_upto_region 2 with fail
  generalize w4.setCell ⟨gr, a, none⟩ (.int .i64 (n : Int)) = w5 at S5 Q5 ⊢
  have hbl := S5.box.lt
  have hql := Q5.lt
  have x0 : w5.cell? ⟨b, 0, none⟩ = some (.slice A n c) := S5.box.cell 0
  have y0 : w5.cell? ⟨q, 0, none⟩ = some (.int .i64 1) := Q5.cell 0
  have y1 : w5.cell? ⟨q, 1, none⟩ = some (.int .i64 a) := Q5.cell 1
  have y2 : w5.cell? ⟨q, 2, none⟩ = some (.int .i64 ob) := Q5.cell 2
  have y3 : w5.cell? ⟨q, 3, none⟩ = some (.int .i64 oc) := Q5.cell 3
  have SS := Lib.hid S5
  have QQ := Lib.hid Q5
  clear S5 Q5
  refine wp_region_inv (by kernel_rfl) (by kernel_rfl) (fun L ac ww => ∃ t16 t17 t18 t19 t20 t21 t22 t23 t24 t25 t26 : Value, ac = { tmps := #[cmV { op := 1, a := ↑a, b := ↑ob, c := oc }, Value.pointer (some { block := b, off := 0 }), Value.pointer (some { block := q, off := 0 }), undef, Value.pointer (some { block := b, off := 0 }), Value.pointer (some { block := b, off := 0 }), Value.pointer (some { block := b, off := 1 }), Value.slice (some { block := gr, off := 0 }) 4 d, Value.pointer (some { block := q, off := 1 }), Value.int IntKind.i64 ↑a, Value.pointer (some { block := b, off := 0 }), Value.pointer (some { block := b, off := 0 }), Value.pointer (some { block := b, off := 0 }), Value.slice A n c, Value.int IntKind.i64 ↑n, Value.pointer (some { block := gr, off := a }), t16, t17, t18, t19, t20, t21, t22, t23, t24, t25, t26], defers := [] } ∧ (L 8 = false → Below w5.heap.size w5 ww) ∧ (Closed [(2, 1), (3, 2), (4, 3), (6, 5), (7, 6), (8, 4), (8, 6), (8, 7), (9, 0), (9, 1), (9, 2), (9, 3), (9, 4), (9, 5), (9, 6), (9, 7), (9, 8), (10, 9), (11, 10)] L) ∧ (L 0 = true → t16 = .pointer (some ⟨b, 0, none⟩)) ∧ (L 1 = true → t17 = .pointer (some ⟨b, 0, none⟩)) ∧ (L 2 = true → t18 = .pointer (some ⟨b, 0, none⟩)) ∧ (L 3 = true → t19 = .pointer (some ⟨b, 0, none⟩)) ∧ (L 4 = true → t20 = .slice A n c) ∧ (L 5 = true → t21 = cmV ⟨1, a, ob, oc⟩) ∧ (L 6 = true → ∃ v8, t22 = .agg #[.bool true, .int .i64 oc, v8] ∧ (∃ A8 c8, v8 = .slice A8 ob c8) ∧ (L 8 = false → OwnI ww w5.heap.size v8 (List.replicate ob (-1)))) ∧ (L 7 = true → (∃ g12 v8, t22 = .agg #[.bool true, .int .i64 oc, v8] ∧ t23 = .slice (some ⟨g12, 0, none⟩) 1 1 ∧ (L 8 = false → Rw ww g12 43 #[.bool true, .int .i64 oc, v8])) ∧ L 6 = true) ∧ (L 8 = true → (L 6 = true ∧ L 4 = true) ∧ ∃ A9 c9 v8, t22 = .agg #[.bool true, .int .i64 oc, v8] ∧ t24 = .slice A9 (n + 1) c9 ∧ ∃ wp w9, ww = (if L 11 = true then w9.setCell ⟨b, 0, none⟩ t24 else w9) ∧ Below w5.heap.size w5 wp ∧ OwnI wp w5.heap.size v8 (List.replicate ob (-1)) ∧ wp.grownBy w9 (Value.slice A n c).ownBlock ∧ w9.ownsRow w0.heap.size 43 3 t24 (n + 1) (flatC h.cs rvs ++ [.bool true, .int .i64 oc, v8]) ∧ (t24.ownBlock = (Value.slice A n c).ownBlock ∨ t24.ownBlock = some wp.heap.size)) ∧ (L 9 = true → t25 = .pointer (some ⟨b, 0, none⟩)) ∧ (L 10 = true → t26 = .pointer (some ⟨b, 0, none⟩)) ∧ (L 11 = true → ∀ q, q < 11 → L q = true)) ?h0 ?hstep ?hdone
  case h0 => exact ⟨_, _, _, _, _, _, _, _, _, _, _, rfl, fun _ => (Below.refl _ _).drew, fun _ _ h => absurd h Bool.false_ne_true, (fun h => absurd h Bool.false_ne_true), (fun h => absurd h Bool.false_ne_true), (fun h => absurd h Bool.false_ne_true), (fun h => absurd h Bool.false_ne_true), (fun h => absurd h Bool.false_ne_true), (fun h => absurd h Bool.false_ne_true), (fun h => absurd h Bool.false_ne_true), (fun h => absurd h Bool.false_ne_true), (fun h => absurd h Bool.false_ne_true), (fun h => absurd h Bool.false_ne_true), (fun h => absurd h Bool.false_ne_true), (fun h => absurd h Bool.false_ne_true)⟩
  case hstep =>
    rintro L ac ww i o ho hL hd ⟨t16, t17, t18, t19, t20, t21, t22, t23, t24, t25, t26, rfl, I0, I1, f0, f1, f2, f3, f4, f5, f6, f7, f8, f9, f10, f11⟩
    have hi : i < 12 := (Array.getElem?_eq_some_iff.1 ho).1
    obtain rfl | rfl | rfl | rfl | rfl | rfl | rfl | rfl | rfl | rfl | rfl | rfl : i = 0 ∨ i = 1 ∨ i = 2 ∨ i = 3 ∨ i = 4 ∨ i = 5 ∨ i = 6 ∨ i = 7 ∨ i = 8 ∨ i = 9 ∨ i = 10 ∨ i = 11 := by omega
    · obtain rfl := Option.some.inj ho
      refine wpOp_step rfl (fun K' hK => ?_)
      go_simp
      refine hK _ _ ?_
      exact ⟨_, _, _, _, _, _, _, _, _, _, _, rfl, (fun h => I0 (by rw [upd_other (by decide)] at h; exact h)), (Closed.step I1 (by
        intro p hp e
        simp only [List.mem_cons, List.not_mem_nil, or_false] at hp
        rcases hp with rfl | rfl | rfl | rfl | rfl | rfl | rfl | rfl | rfl | rfl | rfl | rfl | rfl | rfl | rfl | rfl | rfl | rfl | rfl
        · exact absurd e (by decide)
        · exact absurd e (by decide)
        · exact absurd e (by decide)
        · exact absurd e (by decide)
        · exact absurd e (by decide)
        · exact absurd e (by decide)
        · exact absurd e (by decide)
        · exact absurd e (by decide)
        · exact absurd e (by decide)
        · exact absurd e (by decide)
        · exact absurd e (by decide)
        · exact absurd e (by decide)
        · exact absurd e (by decide)
        · exact absurd e (by decide)
        · exact absurd e (by decide)
        · exact absurd e (by decide)
        · exact absurd e (by decide)
        · exact absurd e (by decide)
        · exact absurd e (by decide))), (fun _ => rfl), (kp f1), (kp f2), (kp f3), (kp f4), (kp f5), (fun h => by
        obtain ⟨v8, e22, x8, r8⟩ := f6 (upd_ne h (by decide))
        exact ⟨v8, e22, x8, fun h8 => r8 (by rw [upd_other (by decide)] at h8; exact h8)⟩), (fun h => by
        obtain ⟨⟨g12, v8, e22, e12, r12⟩, l6⟩ := f7 (upd_ne h (by decide))
        exact ⟨⟨g12, v8, e22, e12, fun h8 => r12 (by rw [upd_other (by decide)] at h8; exact h8)⟩, upd_mono l6⟩), (fun h => by
        obtain ⟨⟨l6, l4⟩, A9, c9, v8, e22, e9, wp, w9, e10, r⟩ := f8 (upd_ne h (by decide))
        exact ⟨⟨upd_mono l6, upd_mono l4⟩, A9, c9, v8, e22, e9, wp, w9, by rw [upd_other (by decide)]; exact e10, r⟩), (kp f9), (kp f10), (fun h => absurd (f11 (upd_ne h (by decide)) 0 (by decide)) (by rw [hL]; decide))⟩
    · obtain rfl := Option.some.inj ho
      have hL8 : L 8 = false := by
        cases e : L 8
        · rfl
        · exact absurd (I1.get (i := 2) (j := 1) (by decide) (I1.get (i := 3) (j := 2) (by decide) (I1.get (i := 4) (j := 3) (by decide) (I1.get (i := 8) (j := 4) (by decide) e)))) (by rw [hL]; decide)
      have J := I0 hL8
      refine wpOp_step rfl (fun K' hK => ?_)
      go_simp
      refine hK _ _ ?_
      exact ⟨_, _, _, _, _, _, _, _, _, _, _, rfl, (fun _ => J), (Closed.step I1 (by
        intro p hp e
        simp only [List.mem_cons, List.not_mem_nil, or_false] at hp
        rcases hp with rfl | rfl | rfl | rfl | rfl | rfl | rfl | rfl | rfl | rfl | rfl | rfl | rfl | rfl | rfl | rfl | rfl | rfl | rfl
        · exact absurd e (by decide)
        · exact absurd e (by decide)
        · exact absurd e (by decide)
        · exact absurd e (by decide)
        · exact absurd e (by decide)
        · exact absurd e (by decide)
        · exact absurd e (by decide)
        · exact absurd e (by decide)
        · exact absurd e (by decide)
        · exact absurd e (by decide)
        · exact absurd e (by decide)
        · exact absurd e (by decide)
        · exact absurd e (by decide)
        · exact absurd e (by decide)
        · exact absurd e (by decide)
        · exact absurd e (by decide)
        · exact absurd e (by decide)
        · exact absurd e (by decide)
        · exact absurd e (by decide))), (kp f0), (fun _ => rfl), (kp f2), (kp f3), (kp f4), (kp f5), (fun h => by
        obtain ⟨v8, e22, x8, r8⟩ := f6 (upd_ne h (by decide))
        exact ⟨v8, e22, x8, fun h8 => r8 (by rw [upd_other (by decide)] at h8; exact h8)⟩), (fun h => by
        obtain ⟨⟨g12, v8, e22, e12, r12⟩, l6⟩ := f7 (upd_ne h (by decide))
        exact ⟨⟨g12, v8, e22, e12, fun h8 => r12 (by rw [upd_other (by decide)] at h8; exact h8)⟩, upd_mono l6⟩), (fun h => absurd hL8 (by rw [upd_ne h (by decide)]; decide)), (kp f9), (kp f10), (fun h => absurd (f11 (upd_ne h (by decide)) 1 (by decide)) (by rw [hL]; decide))⟩
    · obtain rfl := Option.some.inj ho
      have g1 := f1 (hd ⟨1, .data⟩ (by simp) rfl)
      subst g1
      have hL8 : L 8 = false := by
        cases e : L 8
        · rfl
        · exact absurd (I1.get (i := 3) (j := 2) (by decide) (I1.get (i := 4) (j := 3) (by decide) (I1.get (i := 8) (j := 4) (by decide) e))) (by rw [hL]; decide)
      have J := I0 hL8
      refine wpOp_step rfl (fun K' hK => ?_)
      go_simp
      refine hK _ _ ?_
      exact ⟨_, _, _, _, _, _, _, _, _, _, _, rfl, (fun _ => J), (Closed.step I1 (by
        intro p hp e
        simp only [List.mem_cons, List.not_mem_nil, or_false] at hp
        rcases hp with rfl | rfl | rfl | rfl | rfl | rfl | rfl | rfl | rfl | rfl | rfl | rfl | rfl | rfl | rfl | rfl | rfl | rfl | rfl
        · exact hd ⟨1, .data⟩ (by simp) rfl
        · exact absurd e (by decide)
        · exact absurd e (by decide)
        · exact absurd e (by decide)
        · exact absurd e (by decide)
        · exact absurd e (by decide)
        · exact absurd e (by decide)
        · exact absurd e (by decide)
        · exact absurd e (by decide)
        · exact absurd e (by decide)
        · exact absurd e (by decide)
        · exact absurd e (by decide)
        · exact absurd e (by decide)
        · exact absurd e (by decide)
        · exact absurd e (by decide)
        · exact absurd e (by decide)
        · exact absurd e (by decide)
        · exact absurd e (by decide)
        · exact absurd e (by decide))), (kp f0), (kp f1), (fun _ => rfl), (kp f3), (kp f4), (kp f5), (fun h => by
        obtain ⟨v8, e22, x8, r8⟩ := f6 (upd_ne h (by decide))
        exact ⟨v8, e22, x8, fun h8 => r8 (by rw [upd_other (by decide)] at h8; exact h8)⟩), (fun h => by
        obtain ⟨⟨g12, v8, e22, e12, r12⟩, l6⟩ := f7 (upd_ne h (by decide))
        exact ⟨⟨g12, v8, e22, e12, fun h8 => r12 (by rw [upd_other (by decide)] at h8; exact h8)⟩, upd_mono l6⟩), (fun h => absurd hL8 (by rw [upd_ne h (by decide)]; decide)), (kp f9), (kp f10), (fun h => absurd (f11 (upd_ne h (by decide)) 2 (by decide)) (by rw [hL]; decide))⟩
    · obtain rfl := Option.some.inj ho
      have g2 := f2 (hd ⟨2, .data⟩ (by simp) rfl)
      subst g2
      have hL8 : L 8 = false := by
        cases e : L 8
        · rfl
        · exact absurd (I1.get (i := 4) (j := 3) (by decide) (I1.get (i := 8) (j := 4) (by decide) e)) (by rw [hL]; decide)
      have J := I0 hL8
      refine wpOp_step rfl (fun K' hK => ?_)
      go_simp
      refine hK _ _ ?_
      exact ⟨_, _, _, _, _, _, _, _, _, _, _, rfl, (fun _ => J), (Closed.step I1 (by
        intro p hp e
        simp only [List.mem_cons, List.not_mem_nil, or_false] at hp
        rcases hp with rfl | rfl | rfl | rfl | rfl | rfl | rfl | rfl | rfl | rfl | rfl | rfl | rfl | rfl | rfl | rfl | rfl | rfl | rfl
        · exact absurd e (by decide)
        · exact hd ⟨2, .data⟩ (by simp) rfl
        · exact absurd e (by decide)
        · exact absurd e (by decide)
        · exact absurd e (by decide)
        · exact absurd e (by decide)
        · exact absurd e (by decide)
        · exact absurd e (by decide)
        · exact absurd e (by decide)
        · exact absurd e (by decide)
        · exact absurd e (by decide)
        · exact absurd e (by decide)
        · exact absurd e (by decide)
        · exact absurd e (by decide)
        · exact absurd e (by decide)
        · exact absurd e (by decide)
        · exact absurd e (by decide)
        · exact absurd e (by decide)
        · exact absurd e (by decide))), (kp f0), (kp f1), (kp f2), (fun _ => rfl), (kp f4), (kp f5), (fun h => by
        obtain ⟨v8, e22, x8, r8⟩ := f6 (upd_ne h (by decide))
        exact ⟨v8, e22, x8, fun h8 => r8 (by rw [upd_other (by decide)] at h8; exact h8)⟩), (fun h => by
        obtain ⟨⟨g12, v8, e22, e12, r12⟩, l6⟩ := f7 (upd_ne h (by decide))
        exact ⟨⟨g12, v8, e22, e12, fun h8 => r12 (by rw [upd_other (by decide)] at h8; exact h8)⟩, upd_mono l6⟩), (fun h => absurd hL8 (by rw [upd_ne h (by decide)]; decide)), (kp f9), (kp f10), (fun h => absurd (f11 (upd_ne h (by decide)) 3 (by decide)) (by rw [hL]; decide))⟩
    · obtain rfl := Option.some.inj ho
      have g3 := f3 (hd ⟨3, .data⟩ (by simp) rfl)
      subst g3
      have hL8 : L 8 = false := by
        cases e : L 8
        · rfl
        · exact absurd (I1.get (i := 8) (j := 4) (by decide) e) (by rw [hL]; decide)
      have J := I0 hL8
      have z0 : ww.cell? ⟨b, 0, none⟩ = some (.slice A n c) := (J.cell (p := ⟨b, 0, none⟩) hbl).trans x0
      refine wpOp_step rfl (fun K' hK => ?_)
      go_simp
      refine hK _ _ ?_
      exact ⟨_, _, _, _, _, _, _, _, _, _, _, rfl, (fun _ => J), (Closed.step I1 (by
        intro p hp e
        simp only [List.mem_cons, List.not_mem_nil, or_false] at hp
        rcases hp with rfl | rfl | rfl | rfl | rfl | rfl | rfl | rfl | rfl | rfl | rfl | rfl | rfl | rfl | rfl | rfl | rfl | rfl | rfl
        · exact absurd e (by decide)
        · exact absurd e (by decide)
        · exact hd ⟨3, .data⟩ (by simp) rfl
        · exact absurd e (by decide)
        · exact absurd e (by decide)
        · exact absurd e (by decide)
        · exact absurd e (by decide)
        · exact absurd e (by decide)
        · exact absurd e (by decide)
        · exact absurd e (by decide)
        · exact absurd e (by decide)
        · exact absurd e (by decide)
        · exact absurd e (by decide)
        · exact absurd e (by decide)
        · exact absurd e (by decide)
        · exact absurd e (by decide)
        · exact absurd e (by decide)
        · exact absurd e (by decide)
        · exact absurd e (by decide))), (kp f0), (kp f1), (kp f2), (kp f3), (fun _ => rfl), (kp f5), (fun h => by
        obtain ⟨v8, e22, x8, r8⟩ := f6 (upd_ne h (by decide))
        exact ⟨v8, e22, x8, fun h8 => r8 (by rw [upd_other (by decide)] at h8; exact h8)⟩), (fun h => by
        obtain ⟨⟨g12, v8, e22, e12, r12⟩, l6⟩ := f7 (upd_ne h (by decide))
        exact ⟨⟨g12, v8, e22, e12, fun h8 => r12 (by rw [upd_other (by decide)] at h8; exact h8)⟩, upd_mono l6⟩), (fun h => absurd hL8 (by rw [upd_ne h (by decide)]; decide)), (kp f9), (kp f10), (fun h => absurd (f11 (upd_ne h (by decide)) 4 (by decide)) (by rw [hL]; decide))⟩
    · obtain rfl := Option.some.inj ho
      have hL8 : L 8 = false := by
        cases e : L 8
        · rfl
        · exact absurd (I1.get (i := 6) (j := 5) (by decide) (I1.get (i := 8) (j := 6) (by decide) e)) (by rw [hL]; decide)
      have J := I0 hL8
      have z1 : ww.cell? ⟨q, 0, none⟩ = some (.int .i64 1) := (J.cell (p := ⟨q, 0, none⟩) hql).trans y0
      have z2 : ww.cell? ⟨q, 1, none⟩ = some (.int .i64 a) := (J.cell (p := ⟨q, 1, none⟩) hql).trans y1
      have z3 : ww.cell? ⟨q, 2, none⟩ = some (.int .i64 ob) := (J.cell (p := ⟨q, 2, none⟩) hql).trans y2
      have z4 : ww.cell? ⟨q, 3, none⟩ = some (.int .i64 oc) := (J.cell (p := ⟨q, 3, none⟩) hql).trans y3
      refine wpOp_step rfl (fun K' hK => ?_)
      go_simp
      refine hK _ _ ?_
      exact ⟨_, _, _, _, _, _, _, _, _, _, _, rfl, (fun _ => J), (Closed.step I1 (by
        intro p hp e
        simp only [List.mem_cons, List.not_mem_nil, or_false] at hp
        rcases hp with rfl | rfl | rfl | rfl | rfl | rfl | rfl | rfl | rfl | rfl | rfl | rfl | rfl | rfl | rfl | rfl | rfl | rfl | rfl
        · exact absurd e (by decide)
        · exact absurd e (by decide)
        · exact absurd e (by decide)
        · exact absurd e (by decide)
        · exact absurd e (by decide)
        · exact absurd e (by decide)
        · exact absurd e (by decide)
        · exact absurd e (by decide)
        · exact absurd e (by decide)
        · exact absurd e (by decide)
        · exact absurd e (by decide)
        · exact absurd e (by decide)
        · exact absurd e (by decide)
        · exact absurd e (by decide)
        · exact absurd e (by decide)
        · exact absurd e (by decide)
        · exact absurd e (by decide)
        · exact absurd e (by decide)
        · exact absurd e (by decide))), (kp f0), (kp f1), (kp f2), (kp f3), (kp f4), (fun _ => rfl), (fun h => by
        obtain ⟨v8, e22, x8, r8⟩ := f6 (upd_ne h (by decide))
        exact ⟨v8, e22, x8, fun h8 => r8 (by rw [upd_other (by decide)] at h8; exact h8)⟩), (fun h => by
        obtain ⟨⟨g12, v8, e22, e12, r12⟩, l6⟩ := f7 (upd_ne h (by decide))
        exact ⟨⟨g12, v8, e22, e12, fun h8 => r12 (by rw [upd_other (by decide)] at h8; exact h8)⟩, upd_mono l6⟩), (fun h => absurd hL8 (by rw [upd_ne h (by decide)]; decide)), (kp f9), (kp f10), (fun h => absurd (f11 (upd_ne h (by decide)) 5 (by decide)) (by rw [hL]; decide))⟩
    · obtain rfl := Option.some.inj ho
      have g5 := f5 (hd ⟨5, .data⟩ (by simp) rfl)
      subst g5
      have hL8 : L 8 = false := by
        cases e : L 8
        · rfl
        · exact absurd (I1.get (i := 8) (j := 6) (by decide) e) (by rw [hL]; decide)
      have J := I0 hL8
      refine wpOp_step rfl (fun K' hK => ?_)
      go_simp
      refine (madeCell_any hb3 ww).mono ?_
      rintro e w' ⟨v8, rfl, o1, b5⟩
      obtain ⟨A8, c8, e8, -⟩ := o1.form
      rw [List.length_replicate] at e8
      refine hK _ _ ?_
      exact ⟨_, _, _, _, _, _, _, _, _, _, _, rfl, (fun _ => J.trans (b5.mono J.size)), (Closed.step I1 (by
        intro p hp e
        simp only [List.mem_cons, List.not_mem_nil, or_false] at hp
        rcases hp with rfl | rfl | rfl | rfl | rfl | rfl | rfl | rfl | rfl | rfl | rfl | rfl | rfl | rfl | rfl | rfl | rfl | rfl | rfl
        · exact absurd e (by decide)
        · exact absurd e (by decide)
        · exact absurd e (by decide)
        · exact hd ⟨5, .data⟩ (by simp) rfl
        · exact absurd e (by decide)
        · exact absurd e (by decide)
        · exact absurd e (by decide)
        · exact absurd e (by decide)
        · exact absurd e (by decide)
        · exact absurd e (by decide)
        · exact absurd e (by decide)
        · exact absurd e (by decide)
        · exact absurd e (by decide)
        · exact absurd e (by decide)
        · exact absurd e (by decide)
        · exact absurd e (by decide)
        · exact absurd e (by decide)
        · exact absurd e (by decide)
        · exact absurd e (by decide))), (kp f0), (kp f1), (kp f2), (kp f3), (kp f4), (kp f5), (fun _ => ⟨v8, rfl, ⟨A8, c8, e8⟩, fun _ => o1.base J.size⟩), (fun h => absurd (f7 (upd_ne h (by decide))).2 (by rw [hL]; decide)), (fun h => absurd hL8 (by rw [upd_ne h (by decide)]; decide)), (kp f9), (kp f10), (fun h => absurd (f11 (upd_ne h (by decide)) 6 (by decide)) (by rw [hL]; decide))⟩
    · obtain rfl := Option.some.inj ho
      have g6 := f6 (hd ⟨6, .data⟩ (by simp) rfl)
      have hL8 : L 8 = false := by
        cases e : L 8
        · rfl
        · exact absurd (I1.get (i := 8) (j := 7) (by decide) e) (by rw [hL]; decide)
      have J := I0 hL8
      have L6 := Lib.hid (hd ⟨6, .data⟩ (by simp) rfl)
      obtain ⟨v8, e22, ⟨A8, c8, e8⟩, r8⟩ := g6
      subst e22
      subst e8
      have b5 : Below ww.heap.size ww (ww.alloc (.cells #[.bool true, .int .i64 oc, .slice A8 ob c8] 43)) := (Below.refl _ _).alloc (Nat.le_refl _) _
      have q12 := Rw.new ww 43 #[.bool true, .int .i64 oc, .slice A8 ob c8]
      refine wpOp_step rfl (fun K' hK => ?_)
      go_simp
      refine hK _ _ ?_
      exact ⟨_, _, _, _, _, _, _, _, _, _, _, rfl, (fun _ => J.alloc J.size _), (Closed.step I1 (by
        intro p hp e
        simp only [List.mem_cons, List.not_mem_nil, or_false] at hp
        rcases hp with rfl | rfl | rfl | rfl | rfl | rfl | rfl | rfl | rfl | rfl | rfl | rfl | rfl | rfl | rfl | rfl | rfl | rfl | rfl
        · exact absurd e (by decide)
        · exact absurd e (by decide)
        · exact absurd e (by decide)
        · exact absurd e (by decide)
        · exact hd ⟨6, .data⟩ (by simp) rfl
        · exact absurd e (by decide)
        · exact absurd e (by decide)
        · exact absurd e (by decide)
        · exact absurd e (by decide)
        · exact absurd e (by decide)
        · exact absurd e (by decide)
        · exact absurd e (by decide)
        · exact absurd e (by decide)
        · exact absurd e (by decide)
        · exact absurd e (by decide)
        · exact absurd e (by decide)
        · exact absurd e (by decide)
        · exact absurd e (by decide)
        · exact absurd e (by decide))), (kp f0), (kp f1), (kp f2), (kp f3), (kp f4), (kp f5), (fun _ => ⟨_, rfl, ⟨A8, c8, rfl⟩, fun _ => (r8 hL8).below b5 (Nat.le_refl _)⟩), (fun _ => ⟨⟨_, _, rfl, rfl, fun _ => q12⟩, upd_mono L6.out⟩), (fun h => absurd hL8 (by rw [upd_ne h (by decide)]; decide)), (kp f9), (kp f10), (fun h => absurd (f11 (upd_ne h (by decide)) 7 (by decide)) (by rw [hL]; decide))⟩
    · obtain rfl := Option.some.inj ho
      have g4 := f4 (hd ⟨4, .data⟩ (by simp) rfl)
      have g7 := f7 (hd ⟨7, .data⟩ (by simp) rfl)
      subst g4
      have lq : Hid (L 6 = true ∧ L 4 = true) := Lib.hid ⟨hd ⟨6, .chain⟩ (by simp) rfl, hd ⟨4, .data⟩ (by simp) rfl⟩
      have J := I0 hL
      obtain ⟨⟨g12, v8, e22, e12, r12⟩, -⟩ := g7
      subst e12
      have q12 := r12 hL
      subst e22
      obtain ⟨v9, e23, ⟨A8, c8, e8⟩, r8⟩ := f6 lq.out.1
      have e24 : v8 = v9 := by
        injection e23 with e23
        simpa using e23
      subst e24
      subst e8
      have o8 := r8 hL
      have S6 := SS.out.up J
      have own6 : ww.ownsRow w0.heap.size 43 3 (.slice A n c) n (flatC h.cs rvs) := by
        have := S6.own.row
        rwa [HN.out] at this
      have hw0 := S6.low.size
      refine wpOp_step rfl (fun K' hK => ?_)
      refine app_stepC rfl (.tmp 20) (.tmp 23) rfl w0.heap.size _ n (flatC h.cs rvs) rfl own6 g12 true oc A8 ob c8 rfl q12 (by omega) hw0 ?_
      intro v' w' A9 c9 e9 o1 g1 s1
      subst e9
      refine hK _ _ ?_
      exact ⟨_, _, _, _, _, _, _, _, _, _, _, rfl, (fun h => absurd h (by rw [upd_self]; decide)), (Closed.step I1 (by
        intro p hp e
        simp only [List.mem_cons, List.not_mem_nil, or_false] at hp
        rcases hp with rfl | rfl | rfl | rfl | rfl | rfl | rfl | rfl | rfl | rfl | rfl | rfl | rfl | rfl | rfl | rfl | rfl | rfl | rfl
        · exact absurd e (by decide)
        · exact absurd e (by decide)
        · exact absurd e (by decide)
        · exact absurd e (by decide)
        · exact absurd e (by decide)
        · exact hd ⟨4, .data⟩ (by simp) rfl
        · exact hd ⟨6, .chain⟩ (by simp) rfl
        · exact hd ⟨7, .data⟩ (by simp) rfl
        · exact absurd e (by decide)
        · exact absurd e (by decide)
        · exact absurd e (by decide)
        · exact absurd e (by decide)
        · exact absurd e (by decide)
        · exact absurd e (by decide)
        · exact absurd e (by decide)
        · exact absurd e (by decide)
        · exact absurd e (by decide)
        · exact absurd e (by decide)
        · exact absurd e (by decide))), (kp f0), (kp f1), (kp f2), (kp f3), (kp f4), (kp f5), (fun _ => ⟨_, rfl, ⟨A8, c8, rfl⟩, fun h => absurd h (by rw [upd_self]; decide)⟩), (fun _ => ⟨⟨g12, _, rfl, rfl, fun h => absurd h (by rw [upd_self]; decide)⟩, upd_mono lq.out.1⟩), (fun _ => ⟨⟨upd_mono lq.out.1, upd_mono lq.out.2⟩, A9, c9, _, rfl, rfl, ww, w', by
        rw [upd_other (by decide)]
        cases e : L 11
        · rw [if_neg (by decide)]
        · exact absurd (f11 e 8 (by decide)) (by rw [hL]; decide), J, o8, g1, o1, s1⟩), (kp f9), (kp f10), (fun h => absurd (f11 (upd_ne h (by decide)) 8 (by decide)) (by rw [hL]; decide))⟩
    · obtain rfl := Option.some.inj ho
      have g0 := f0 (hd ⟨0, .data⟩ (by simp) rfl)
      subst g0
      refine wpOp_step rfl (fun K' hK => ?_)
      go_simp
      refine hK _ _ ?_
      exact ⟨_, _, _, _, _, _, _, _, _, _, _, rfl, (fun h => I0 (by rw [upd_other (by decide)] at h; exact h)), (Closed.step I1 (by
        intro p hp e
        simp only [List.mem_cons, List.not_mem_nil, or_false] at hp
        rcases hp with rfl | rfl | rfl | rfl | rfl | rfl | rfl | rfl | rfl | rfl | rfl | rfl | rfl | rfl | rfl | rfl | rfl | rfl | rfl
        · exact absurd e (by decide)
        · exact absurd e (by decide)
        · exact absurd e (by decide)
        · exact absurd e (by decide)
        · exact absurd e (by decide)
        · exact absurd e (by decide)
        · exact absurd e (by decide)
        · exact absurd e (by decide)
        · exact hd ⟨0, .phase⟩ (by simp) rfl
        · exact hd ⟨1, .phase⟩ (by simp) rfl
        · exact hd ⟨2, .phase⟩ (by simp) rfl
        · exact hd ⟨3, .phase⟩ (by simp) rfl
        · exact hd ⟨4, .phase⟩ (by simp) rfl
        · exact hd ⟨5, .phase⟩ (by simp) rfl
        · exact hd ⟨6, .phase⟩ (by simp) rfl
        · exact hd ⟨7, .phase⟩ (by simp) rfl
        · exact hd ⟨8, .phase⟩ (by simp) rfl
        · exact absurd e (by decide)
        · exact absurd e (by decide))), (kp f0), (kp f1), (kp f2), (kp f3), (kp f4), (kp f5), (fun h => by
        obtain ⟨v8, e22, x8, r8⟩ := f6 (upd_ne h (by decide))
        exact ⟨v8, e22, x8, fun h8 => r8 (by rw [upd_other (by decide)] at h8; exact h8)⟩), (fun h => by
        obtain ⟨⟨g12, v8, e22, e12, r12⟩, l6⟩ := f7 (upd_ne h (by decide))
        exact ⟨⟨g12, v8, e22, e12, fun h8 => r12 (by rw [upd_other (by decide)] at h8; exact h8)⟩, upd_mono l6⟩), (fun h => by
        obtain ⟨⟨l6, l4⟩, A9, c9, v8, e22, e9, wp, w9, e10, r⟩ := f8 (upd_ne h (by decide))
        exact ⟨⟨upd_mono l6, upd_mono l4⟩, A9, c9, v8, e22, e9, wp, w9, by rw [upd_other (by decide)]; exact e10, r⟩), (fun _ => rfl), (kp f10), (fun h => absurd (f11 (upd_ne h (by decide)) 9 (by decide)) (by rw [hL]; decide))⟩
    · obtain rfl := Option.some.inj ho
      have g9 := f9 (hd ⟨9, .data⟩ (by simp) rfl)
      subst g9
      refine wpOp_step rfl (fun K' hK => ?_)
      go_simp
      refine hK _ _ ?_
      exact ⟨_, _, _, _, _, _, _, _, _, _, _, rfl, (fun h => I0 (by rw [upd_other (by decide)] at h; exact h)), (Closed.step I1 (by
        intro p hp e
        simp only [List.mem_cons, List.not_mem_nil, or_false] at hp
        rcases hp with rfl | rfl | rfl | rfl | rfl | rfl | rfl | rfl | rfl | rfl | rfl | rfl | rfl | rfl | rfl | rfl | rfl | rfl | rfl
        · exact absurd e (by decide)
        · exact absurd e (by decide)
        · exact absurd e (by decide)
        · exact absurd e (by decide)
        · exact absurd e (by decide)
        · exact absurd e (by decide)
        · exact absurd e (by decide)
        · exact absurd e (by decide)
        · exact absurd e (by decide)
        · exact absurd e (by decide)
        · exact absurd e (by decide)
        · exact absurd e (by decide)
        · exact absurd e (by decide)
        · exact absurd e (by decide)
        · exact absurd e (by decide)
        · exact absurd e (by decide)
        · exact absurd e (by decide)
        · exact hd ⟨9, .data⟩ (by simp) rfl
        · exact absurd e (by decide))), (kp f0), (kp f1), (kp f2), (kp f3), (kp f4), (kp f5), (fun h => by
        obtain ⟨v8, e22, x8, r8⟩ := f6 (upd_ne h (by decide))
        exact ⟨v8, e22, x8, fun h8 => r8 (by rw [upd_other (by decide)] at h8; exact h8)⟩), (fun h => by
        obtain ⟨⟨g12, v8, e22, e12, r12⟩, l6⟩ := f7 (upd_ne h (by decide))
        exact ⟨⟨g12, v8, e22, e12, fun h8 => r12 (by rw [upd_other (by decide)] at h8; exact h8)⟩, upd_mono l6⟩), (fun h => by
        obtain ⟨⟨l6, l4⟩, A9, c9, v8, e22, e9, wp, w9, e10, r⟩ := f8 (upd_ne h (by decide))
        exact ⟨⟨upd_mono l6, upd_mono l4⟩, A9, c9, v8, e22, e9, wp, w9, by rw [upd_other (by decide)]; exact e10, r⟩), (kp f9), (fun _ => rfl), (fun h => absurd (f11 (upd_ne h (by decide)) 10 (by decide)) (by rw [hL]; decide))⟩
    · obtain rfl := Option.some.inj ho
      have g8 := f8 (hd ⟨8, .data⟩ (by simp) rfl)
      have g10 := f10 (hd ⟨10, .data⟩ (by simp) rfl)
      subst g10
      have lq : Hid (∀ q, q < 11 → L q = true) := Lib.hid (by
        intro q hq
        obtain rfl | rfl | rfl | rfl | rfl | rfl | rfl | rfl | rfl | rfl | rfl : q = 0 ∨ q = 1 ∨ q = 2 ∨ q = 3 ∨ q = 4 ∨ q = 5 ∨ q = 6 ∨ q = 7 ∨ q = 8 ∨ q = 9 ∨ q = 10 := by omega
        · exact hd ⟨0, .phase⟩ (by simp) rfl
        · exact hd ⟨1, .phase⟩ (by simp) rfl
        · exact hd ⟨2, .phase⟩ (by simp) rfl
        · exact hd ⟨3, .phase⟩ (by simp) rfl
        · exact hd ⟨4, .phase⟩ (by simp) rfl
        · exact hd ⟨5, .phase⟩ (by simp) rfl
        · exact hd ⟨6, .phase⟩ (by simp) rfl
        · exact hd ⟨7, .phase⟩ (by simp) rfl
        · exact hd ⟨8, .phase⟩ (by simp) rfl
        · exact I1.get (i := 10) (j := 9) (by decide) (hd ⟨10, .data⟩ (by simp) rfl)
        · exact hd ⟨10, .data⟩ (by simp) rfl)
      obtain ⟨ll, A9, c9, v8, e22, e9, wp, w9, e10, r1, r2, r3, r4, r5⟩ := g8
      have LL := Lib.hid ll
      clear ll
      rw [hL, if_neg (by decide)] at e10
      subst e10
      subst e9
      subst e22
      have hb9 : Rw ww b 26 #[.slice A n c, .slice (some ⟨gr, 0, none⟩) 4 d] := Rw.far (SS.out.up r1).box r3 (row_type (by have := (SS.out.up r1).own.row; rw [HN.out] at this; exact this) (SS.out.up r1).box (by decide))
      have z0 : ww.cell? ⟨b, 0, none⟩ = some (.slice A n c) := hb9.cell 0
      have zf : ww.frozen? ⟨b, 0, none⟩ = false := hb9.frozen 0
      refine wpOp_step rfl (fun K' hK => ?_)
      go_simp
      refine hK _ _ ?_
      exact ⟨_, _, _, _, _, _, _, _, _, _, _, rfl, (fun h => by
        rw [upd_other (by decide)] at h
        exact absurd (lq.out 8 (by decide)) (by rw [h]; decide)), (Closed.step I1 (by
        intro p hp e
        simp only [List.mem_cons, List.not_mem_nil, or_false] at hp
        rcases hp with rfl | rfl | rfl | rfl | rfl | rfl | rfl | rfl | rfl | rfl | rfl | rfl | rfl | rfl | rfl | rfl | rfl | rfl | rfl
        · exact absurd e (by decide)
        · exact absurd e (by decide)
        · exact absurd e (by decide)
        · exact absurd e (by decide)
        · exact absurd e (by decide)
        · exact absurd e (by decide)
        · exact absurd e (by decide)
        · exact absurd e (by decide)
        · exact absurd e (by decide)
        · exact absurd e (by decide)
        · exact absurd e (by decide)
        · exact absurd e (by decide)
        · exact absurd e (by decide)
        · exact absurd e (by decide)
        · exact absurd e (by decide)
        · exact absurd e (by decide)
        · exact absurd e (by decide)
        · exact absurd e (by decide)
        · exact hd ⟨10, .data⟩ (by simp) rfl)), (kp f0), (kp f1), (kp f2), (kp f3), (kp f4), (kp f5), (fun h => by
        obtain ⟨v9, e22, x8, r8⟩ := f6 (upd_ne h (by decide))
        exact ⟨v9, e22, x8, fun h8 => absurd (lq.out 8 (by decide)) (by rw [upd_other (by decide)] at h8; rw [h8]; decide)⟩), (fun h => by
        obtain ⟨⟨g12, v9, e22, e12, r12⟩, l6⟩ := f7 (upd_ne h (by decide))
        exact ⟨⟨g12, v9, e22, e12, fun h8 => absurd (lq.out 8 (by decide)) (by rw [upd_other (by decide)] at h8; rw [h8]; decide)⟩, upd_mono l6⟩), (fun _ => ⟨⟨upd_mono LL.out.1, upd_mono LL.out.2⟩, A9, c9, v8, rfl, rfl, wp, ww, by rw [upd_self, if_pos rfl], r1, r2, r3, r4, r5⟩), (kp f9), (kp f10), (fun _ q hq => upd_mono (lq.out q hq))⟩
  case hdone =>
    rintro L ac ww hall ⟨t16, t17, t18, t19, t20, t21, t22, t23, t24, t25, t26, rfl, I0, I1, f0, f1, f2, f3, f4, f5, f6, f7, f8, f9, f10, f11⟩
    have e0 := f0 (hall 0 (by decide))
    have e1 := f1 (hall 1 (by decide))
    have e2 := f2 (hall 2 (by decide))
    have e3 := f3 (hall 3 (by decide))
    have e4 := f4 (hall 4 (by decide))
    have e5 := f5 (hall 5 (by decide))
    have e6 := f6 (hall 6 (by decide))
    have e7 := f7 (hall 7 (by decide))
    have e8 := f8 (hall 8 (by decide))
    have e9 := f9 (hall 9 (by decide))
    have e10 := f10 (hall 10 (by decide))
    have e11 := f11 (hall 11 (by decide))
    clear f0 f1 f2 f3 f4 f5 f6 f7 f8 f9 f10 f11
    obtain ⟨-, A9, c9, v8, rfl, rfl, wp, w9, e17, r1, r2, r3, r4, r5⟩ := e8
    rw [hall 11 (by decide), if_pos rfl] at e17
    subst e17
    have SP := SS.out.up r1
    have hap : ∀ v ∈ (Value.slice A n c) :: (.slice (some ⟨gr, 0, none⟩) 4 d) :: rvs, v8.ownBlock = none ∨ v8.ownBlock ≠ v.ownBlock := fun v hv => by
      cases e : v8.ownBlock with
      | none => exact .inl rfl
      | some k =>
        right
        intro e'
        have a1 := (World.ownsRow.lt r2 k e).1
        have a2 := (SS.out.own.blocks hv e'.symm).2
        omega
    have h8b : v8.ownBlock ≠ some b := fun e => by
      have := (World.ownsRow.lt r2 b e).1
      omega
    have SF := SP.snoc (cl := ⟨true, oc, List.replicate ob (-1)⟩) (v9 := .slice A9 (n + 1) c9) (v8 := v8) r3 (by rw [HN.out]; exact r4) r5 (r2.base (by have := SS.out.low.size; omega)) hap h8b
    clear I0 I1 e0 e1 e2 e3 e4 e5 e6 e7 e9 e10 e11 hall r1 r2 r3 r4 r5 SP hap h8b x0 y0 y1 y2 y3
    go_wp2_with fail
    go_end0
    exact ⟨⟨_, rfl⟩, _, _, _, by rw [HF.out, HN.out]; exact SF⟩
end Go.Proofs.YtfgdenmlfloloaaDoor

namespace Go.Proofs.YtfgdenmlfloloaaDoor
open Go.RowKit
set_option maxRecDepth 100000
theorem hasRoom_any (A R : Option Addr) (n c m d : Nat) (o : Cm) (w : World) : Calls Tryd.prog 73 #[heapV A n c R m d, cmV o] w fun e w' => e = .returned (.bool (decide (¬ (o.op = 1 ∧ 40 ≤ n)))) ∧ Below w.heap.size w w' := by
  have b2 : Below w.heap.size w ((w.alloc (.cells #[.slice A n c, .slice R m d] 26)).alloc (.cells #[.int .i64 o.op, .int .i64 o.a, .int .i64 o.b, .int .i64 o.c] 36)) := ((Below.refl w.heap.size w).alloc (Nat.le_refl _) _).alloc (by simp) _
  by_cases h1 : o.op = 1
  · have hne : (o.op != 1) = false := by simp [h1]
    have R0 := Lib.hid (show decide (¬ (o.op = 1 ∧ 40 ≤ n)) = decide ((n : Int) < 40) by rw [decide_eq_decide]; omega)
    clear h1
    go_enter Tryd.func73, Tryd.ntmps73
    go_wp2_with fail
    go_ret
    exact ⟨by rw [R0.out]; rfl, b2⟩
  · have hne : (o.op != 1) = true := by simp [h1]
    have R0 := Lib.hid (show decide (¬ (o.op = 1 ∧ 40 ≤ n)) = true by rw [decide_eq_true_iff]; omega)
    clear h1
    go_enter Tryd.func73, Tryd.ntmps73
    go_wp2_with fail
    go_ret
    exact ⟨by rw [R0.out]; rfl, b2⟩
set_option maxHeartbeats 2000000 in
theorem stepHeap_bad (A R : Option Addr) (n c m d : Nat) (h : Hp) (o : Cm) (w : World) (hb : o.op < 1 ∨ 6 < o.op) :
    Calls Tryd.prog 19 #[heapV A n c R m d, cmV o] w (GaveH2 w (Hps.stepH h o).1 (Hps.stepH h o).2) := by
  have HF := Lib.hid (Hps.stepH_no (h := h) (.inr (Hps.okCm_none hb)))
  have b2 : Below w.heap.size w (((w.alloc (.cells #[.slice A n c, .slice R m d] 26)).alloc (.cells #[.int .i64 o.op, .int .i64 o.a, .int .i64 o.b, .int .i64 o.c] 36)).alloc (.cells #[.slice none 0 0, .slice none 0 0] 26)) := (((Below.refl w.heap.size w).alloc (Nat.le_refl _) _).alloc (by simp) _).alloc (by simp; omega) _
  have q1 := ((Rw.new w 26 #[.slice A n c, .slice R m d]).alloc (.cells #[.int .i64 o.op, .int .i64 o.a, .int .i64 o.b, .int .i64 o.c] 36)).alloc (.cells #[.slice none 0 0, .slice none 0 0] 26)
  have q2 := (Rw.new (w.alloc (.cells #[.slice A n c, .slice R m d] 26)) 36 #[.int .i64 o.op, .int .i64 o.a, .int .i64 o.b, .int .i64 o.c]).alloc (.cells #[.slice none 0 0, .slice none 0 0] 26)
  have q3 := Rw.new ((w.alloc (.cells #[.slice A n c, .slice R m d] 26)).alloc (.cells #[.int .i64 o.op, .int .i64 o.a, .int .i64 o.b, .int .i64 o.c] 36)) 26 #[.slice none 0 0, .slice none 0 0]
  simp only [World.size_alloc] at q2 q3
  go_enter Tryd.func19, Tryd.ntmps19
  go_wp2_with fail
  refine (operationOf_bad o _ hb).mono ?_
  rintro e w1 ⟨rfl, b1⟩
  replace q1 := (q1.keep b1 q1.lt).alloc (.cells #[.int .i64 0, .int .i64 0, .int .i64 0, .nilFunc, .nilFunc] 111)
  replace q2 := (q2.keep b1 q2.lt).alloc (.cells #[.int .i64 0, .int .i64 0, .int .i64 0, .nilFunc, .nilFunc] 111)
  replace q3 := (q3.keep b1 q3.lt).alloc (.cells #[.int .i64 0, .int .i64 0, .int .i64 0, .nilFunc, .nilFunc] 111)
  have qp := Rw.new w1 111 #[.int .i64 0, .int .i64 0, .int .i64 0, .nilFunc, .nilFunc]
  have b4 := b2.trans (b1.mono b2.size)
  have b3 := b4.alloc b4.size (.cells #[.int .i64 0, .int .i64 0, .int .i64 0, .nilFunc, .nilFunc] 111)
  clear b1 b2 b4
  go_upto_region 2 with fail
  generalize w1.alloc (.cells #[.int .i64 0, .int .i64 0, .int .i64 0, .nilFunc, .nilFunc] 111) = w2 at q1 q2 q3 qp b3 ⊢
  generalize w1.heap.size = b5 at qp ⊢
  have r2 : (w2).frozen? ⟨w.heap.size + 1 + 1, 0, none⟩ = false := q3.frozen 0
  have r3 : (w2).frozen? ⟨w.heap.size + 1 + 1, 1, none⟩ = false := q3.frozen 1
  have r4 : (w2).cell? ⟨w.heap.size + 1 + 1, 0, none⟩ = some (.slice none 0 0) := q3.cell 0
  have r5 : (w2).cell? ⟨w.heap.size + 1 + 1, 1, none⟩ = some (.slice none 0 0) := q3.cell 1
  have r6 : (((w2).setCell ⟨w.heap.size + 1 + 1, 0, none⟩ (.slice none 0 0)).setCell ⟨w.heap.size + 1 + 1, 1, none⟩ (.slice none 0 0)).cell? ⟨w.heap.size + 1 + 1, 0, none⟩ = some (.slice none 0 0) := ((q3.put 0 (.slice none 0 0)).put 1 (.slice none 0 0)).cell 0
  have r7 : (((w2).setCell ⟨w.heap.size + 1 + 1, 0, none⟩ (.slice none 0 0)).setCell ⟨w.heap.size + 1 + 1, 1, none⟩ (.slice none 0 0)).cell? ⟨w.heap.size + 1 + 1, 1, none⟩ = some (.slice none 0 0) := ((q3.put 0 (.slice none 0 0)).put 1 (.slice none 0 0)).cell 1
  have D := Lib.hid (OwnH.out (w := w) (g := w.heap.size + 1 + 1) (own_zeroH w2 w2.heap.size (Nat.le_refl _)) (by exact q3.lt) b3 (by omega))
  clear q1 q2 q3 qp b3 hb
  go_wp2_with fail
  exact bodyPost_ret (v := .tuple #[.agg #[.slice none 0 0, .slice none 0 0], .bool false]) (by simp [results, Tryd.results19, go_sem, *]) rfl ⟨_, _, by rw [HF.out], by rw [HF.out]; exact D.out.1, D.out.2⟩
set_option maxHeartbeats 4000000 in
theorem stepHeap_walk (f g : Nat) (x y z : Int) (A R : Option Addr) (n c m d : Nat) (h : Hp) (o : Cm) (w : World) (hs : HS w w.heap.size A n R m h) (hn : n ≤ 1099511627776) (hm : m ≤ 1099511627776) (hc : n ≤ c) (hd : m ≤ d)
    (hop : ∀ w, Calls Tryd.prog 71 #[cmV o] w fun e w' => e = .returned (.tuple #[opA x y z f g, .bool (Hps.okCm o)]) ∧ Below w.heap.size w w') (hf : Hps.validH h = true → Hps.okCm o = true → PossF f o h) (hg : Hps.canH h o = true → ExecF g o h)
    (hen : ∀ args w, (callFunc f args).run Tryd.prog w = .ok (.enter f args) w) (hen2 : ∀ args w, (callFunc g args).run Tryd.prog w = .ok (.enter g args) w) :
    Calls Tryd.prog 19 #[heapV A n c R m d, cmV o] w (GaveH2 w (Hps.stepH h o).1 (Hps.stepH h o).2) := by
  have HP0 := Lib.hid hf
  have HG := Lib.hid hg
  have HO := Lib.hid hop
  have HE := Lib.hid hen
  have HE2 := Lib.hid hen2
  clear hf hg hop hen hen2
  have b2 : Below w.heap.size w (((w.alloc (.cells #[.slice A n c, .slice R m d] 26)).alloc (.cells #[.int .i64 o.op, .int .i64 o.a, .int .i64 o.b, .int .i64 o.c] 36)).alloc (.cells #[.slice none 0 0, .slice none 0 0] 26)) := (((Below.refl w.heap.size w).alloc (Nat.le_refl _) _).alloc (by simp) _).alloc (by simp; omega) _
  have q1 := ((Rw.new w 26 #[.slice A n c, .slice R m d]).alloc (.cells #[.int .i64 o.op, .int .i64 o.a, .int .i64 o.b, .int .i64 o.c] 36)).alloc (.cells #[.slice none 0 0, .slice none 0 0] 26)
  have q2 := (Rw.new (w.alloc (.cells #[.slice A n c, .slice R m d] 26)) 36 #[.int .i64 o.op, .int .i64 o.a, .int .i64 o.b, .int .i64 o.c]).alloc (.cells #[.slice none 0 0, .slice none 0 0] 26)
  have q3 := Rw.new ((w.alloc (.cells #[.slice A n c, .slice R m d] 26)).alloc (.cells #[.int .i64 o.op, .int .i64 o.a, .int .i64 o.b, .int .i64 o.c] 36)) 26 #[.slice none 0 0, .slice none 0 0]
  simp only [World.size_alloc] at q2 q3
  go_enter Tryd.func19, Tryd.ntmps19
  go_wp2_with fail
  refine (HO.out _).mono ?_
  obtain ⟨r, ho⟩ : ∃ r, Hps.okCm o = r := ⟨_, rfl⟩
  rw [ho]
  rintro e w1 ⟨rfl, b1⟩
  replace q1 := (q1.keep b1 q1.lt).alloc (.cells #[.int .i64 x, .int .i64 y, .int .i64 z, .func (.func f) #[] #[], .func (.func g) #[] #[]] 111)
  replace q2 := (q2.keep b1 q2.lt).alloc (.cells #[.int .i64 x, .int .i64 y, .int .i64 z, .func (.func f) #[] #[], .func (.func g) #[] #[]] 111)
  replace q3 := (q3.keep b1 q3.lt).alloc (.cells #[.int .i64 x, .int .i64 y, .int .i64 z, .func (.func f) #[] #[], .func (.func g) #[] #[]] 111)
  have qp := Rw.new w1 111 #[.int .i64 x, .int .i64 y, .int .i64 z, .func (.func f) #[] #[], .func (.func g) #[] #[]]
  have b4 := b2.trans (b1.mono b2.size)
  have b3 := b4.alloc b4.size (.cells #[.int .i64 x, .int .i64 y, .int .i64 z, .func (.func f) #[] #[], .func (.func g) #[] #[]] 111)
  clear b1 b2 b4
  go_upto_region 2 with fail
  generalize w1.alloc (.cells #[.int .i64 x, .int .i64 y, .int .i64 z, .func (.func f) #[] #[], .func (.func g) #[] #[]] 111) = w2 at q1 q2 q3 qp b3 ⊢
  generalize w1.heap.size = b5 at qp ⊢
  cases r
  · have HF := Lib.hid (Hps.stepH_no (h := h) (.inr ho))
    have r2 : (w2).frozen? ⟨w.heap.size + 1 + 1, 0, none⟩ = false := q3.frozen 0
    have r3 : (w2).frozen? ⟨w.heap.size + 1 + 1, 1, none⟩ = false := q3.frozen 1
    have r4 : (w2).cell? ⟨w.heap.size + 1 + 1, 0, none⟩ = some (.slice none 0 0) := q3.cell 0
    have r5 : (w2).cell? ⟨w.heap.size + 1 + 1, 1, none⟩ = some (.slice none 0 0) := q3.cell 1
    have r6 : (((w2).setCell ⟨w.heap.size + 1 + 1, 0, none⟩ (.slice none 0 0)).setCell ⟨w.heap.size + 1 + 1, 1, none⟩ (.slice none 0 0)).cell? ⟨w.heap.size + 1 + 1, 0, none⟩ = some (.slice none 0 0) := ((q3.put 0 (.slice none 0 0)).put 1 (.slice none 0 0)).cell 0
    have r7 : (((w2).setCell ⟨w.heap.size + 1 + 1, 0, none⟩ (.slice none 0 0)).setCell ⟨w.heap.size + 1 + 1, 1, none⟩ (.slice none 0 0)).cell? ⟨w.heap.size + 1 + 1, 1, none⟩ = some (.slice none 0 0) := ((q3.put 0 (.slice none 0 0)).put 1 (.slice none 0 0)).cell 1
    have D := Lib.hid (OwnH.out (w := w) (g := w.heap.size + 1 + 1) (own_zeroH w2 w2.heap.size (Nat.le_refl _)) (by exact q3.lt) b3 (by omega))
    clear q1 q2 q3 qp b3 ho
    go_wp2_with fail
    exact bodyPost_ret (v := .tuple #[.agg #[.slice none 0 0, .slice none 0 0], .bool false]) (by simp [results, Tryd.results19, go_sem, *]) rfl ⟨_, _, by rw [HF.out], by rw [HF.out]; exact D.out.1, D.out.2⟩
  have HOK := Lib.hid ho
  clear ho
  have x0 : w2.cell? ⟨w.heap.size, 0, none⟩ = some (.slice A n c) := q1.cell 0
  have x1 : w2.cell? ⟨w.heap.size, 1, none⟩ = some (.slice R m d) := q1.cell 1
  have s2 := hs.up b3
  go_wp2_with fail
  refine (heapValid_any _ _ _ _ _ _ h _ s2 hn hm hc hd).mono ?_
  obtain ⟨r, hv⟩ : ∃ r, Hps.validH h = r := ⟨_, rfl⟩
  rw [hv]
  rintro e w3 ⟨rfl, b1⟩
  replace q1 := q1.keep b1 q1.lt
  replace q2 := q2.keep b1 q2.lt
  replace q3 := q3.keep b1 q3.lt
  replace qp := qp.keep b1 qp.lt
  replace b3 := b3.trans (b1.mono b3.size)
  clear b1 s2 x0 x1
  cases r
  · have HF := Lib.hid (Hps.stepH_no (o := o) (.inl hv))
    have r2 : (w3).frozen? ⟨w.heap.size + 1 + 1, 0, none⟩ = false := q3.frozen 0
    have r3 : (w3).frozen? ⟨w.heap.size + 1 + 1, 1, none⟩ = false := q3.frozen 1
    have r4 : (w3).cell? ⟨w.heap.size + 1 + 1, 0, none⟩ = some (.slice none 0 0) := q3.cell 0
    have r5 : (w3).cell? ⟨w.heap.size + 1 + 1, 1, none⟩ = some (.slice none 0 0) := q3.cell 1
    have r6 : (((w3).setCell ⟨w.heap.size + 1 + 1, 0, none⟩ (.slice none 0 0)).setCell ⟨w.heap.size + 1 + 1, 1, none⟩ (.slice none 0 0)).cell? ⟨w.heap.size + 1 + 1, 0, none⟩ = some (.slice none 0 0) := ((q3.put 0 (.slice none 0 0)).put 1 (.slice none 0 0)).cell 0
    have r7 : (((w3).setCell ⟨w.heap.size + 1 + 1, 0, none⟩ (.slice none 0 0)).setCell ⟨w.heap.size + 1 + 1, 1, none⟩ (.slice none 0 0)).cell? ⟨w.heap.size + 1 + 1, 1, none⟩ = some (.slice none 0 0) := ((q3.put 0 (.slice none 0 0)).put 1 (.slice none 0 0)).cell 1
    have D := Lib.hid (OwnH.out (w := w) (g := w.heap.size + 1 + 1) (own_zeroH w3 w3.heap.size (Nat.le_refl _)) (by exact q3.lt) b3 (by omega))
    clear q1 q2 q3 qp b3 hv
    go_wp2_with fail
    exact bodyPost_ret (v := .tuple #[.agg #[.slice none 0 0, .slice none 0 0], .bool false]) (by simp [results, Tryd.results19, go_sem, *]) rfl ⟨_, _, by rw [HF.out], by rw [HF.out]; exact D.out.1, D.out.2⟩
  have HV := Lib.hid hv
  have h40 := (Hps.valid_iff.1 hv).2.1
  have hlc := hs.cells.1
  have H3 := Lib.hid (fun cl (hcl : cl ∈ h.cs) => show cl.r.length ≤ 1000000 by have := (Hps.okCell_iff.1 ((Hps.valid_iff.1 hv).1 cl hcl)).2.2.1; omega)
  have HLC := Lib.hid hlc
  have hn40 : n ≤ 40 := by omega
  clear hv h40 hlc
  have x0 : w3.cell? ⟨w.heap.size, 0, none⟩ = some (.slice A n c) := q1.cell 0
  have x1 : w3.cell? ⟨w.heap.size, 1, none⟩ = some (.slice R m d) := q1.cell 1
  have s3 := hs.up b3
  have B3K := Lib.hid b3
  have Q3K := Lib.hid q3
  go_wp2_with fail
  refine (cloneHeap_any _ _ _ _ _ _ h _ s3 hn hm H3.out).mono ?_
  rintro e w4 ⟨vc, vr, rfl, ow, b1⟩
  have hsz3 := q3.lt
  obtain ⟨rvs, BS0⟩ := BoxSt.of ow b1
  obtain ⟨A5, n5, c5, R5, m5, d5, rfl, rfl⟩ := ow.slices
  replace q1 := (q1.keep b1 q1.lt).alloc (.cells #[.slice A5 n5 c5, .slice R5 m5 d5] 26)
  replace q2 := (q2.keep b1 q2.lt).alloc (.cells #[.slice A5 n5 c5, .slice R5 m5 d5] 26)
  replace q3 := (q3.keep b1 q3.lt).alloc (.cells #[.slice A5 n5 c5, .slice R5 m5 d5] 26)
  replace qp := (qp.keep b1 qp.lt).alloc (.cells #[.slice A5 n5 c5, .slice R5 m5 d5] 26)
  replace b3 := b3.trans (b1.mono b3.size)
  have b6 := b3.alloc b3.size (.cells #[.slice A5 n5 c5, .slice R5 m5 d5] 26)
  clear b1 b3 s3 x0 x1 ow
  go_upto_region 5 with fail
  generalize w4.alloc (.cells #[.slice A5 n5 c5, .slice R5 m5 d5] 26) = w5 at q1 q2 q3 qp b6 BS0 ⊢
  generalize w4.heap.size = b8 at BS0 ⊢
  have x0 : w5.cell? ⟨w.heap.size, 0, none⟩ = some (.slice A n c) := q1.cell 0
  have x1 : w5.cell? ⟨w.heap.size, 1, none⟩ = some (.slice R m d) := q1.cell 1
  have y0 : w5.cell? ⟨w.heap.size + 1, 0, none⟩ = some (.int .i64 o.op) := q2.cell 0
  have y1 : w5.cell? ⟨w.heap.size + 1, 1, none⟩ = some (.int .i64 o.a) := q2.cell 1
  have y2 : w5.cell? ⟨w.heap.size + 1, 2, none⟩ = some (.int .i64 o.b) := q2.cell 2
  have y3 : w5.cell? ⟨w.heap.size + 1, 3, none⟩ = some (.int .i64 o.c) := q2.cell 3
  have z3 : w5.cell? ⟨b5, 3, none⟩ = some (.func (.func f) #[] #[]) := qp.cell 3
  have s5 := hs.up b6
  have hen := HE.out
  go_wp2_with fail
  clear hen
  refine (HP0.out HV.out HOK.out A R n c m d w5 s5 hn hm hc hd).mono ?_
  obtain ⟨r, hr⟩ : ∃ r, Hps.canH h o = r := ⟨_, rfl⟩
  rw [hr]
  rintro e w6 ⟨rfl, b1⟩
  replace q1 := q1.keep b1 q1.lt
  replace q2 := q2.keep b1 q2.lt
  replace q3 := q3.keep b1 q3.lt
  replace qp := qp.keep b1 qp.lt
  replace b6 := b6.trans (b1.mono b6.size)
  replace BS0 := BS0.up b1
  clear b1 s5 x0 x1 y0 y1 y2 y3 z3
  have v0 : w6.cell? ⟨b8, 0, none⟩ = some (.slice A5 n5 c5) := BS0.box.cell 0
  have v1 : w6.cell? ⟨b8, 1, none⟩ = some (.slice R5 m5 d5) := BS0.box.cell 1
  cases r
  · have HF := Lib.hid (Hps.stepH_cannot HV.out HOK.out hr)
    have r2 : (w6).frozen? ⟨w.heap.size + 1 + 1, 0, none⟩ = false := q3.frozen 0
    have r3 : (w6).frozen? ⟨w.heap.size + 1 + 1, 1, none⟩ = false := q3.frozen 1
    have r4 : (w6).cell? ⟨w.heap.size + 1 + 1, 0, none⟩ = some (.slice none 0 0) := q3.cell 0
    have r5 : (w6).cell? ⟨w.heap.size + 1 + 1, 1, none⟩ = some (.slice none 0 0) := q3.cell 1
    have r6 : (((w6).setCell ⟨w.heap.size + 1 + 1, 0, none⟩ (.slice A5 n5 c5)).setCell ⟨w.heap.size + 1 + 1, 1, none⟩ (.slice R5 m5 d5)).cell? ⟨w.heap.size + 1 + 1, 0, none⟩ = some (.slice A5 n5 c5) := ((q3.put 0 (.slice A5 n5 c5)).put 1 (.slice R5 m5 d5)).cell 0
    have r7 : (((w6).setCell ⟨w.heap.size + 1 + 1, 0, none⟩ (.slice A5 n5 c5)).setCell ⟨w.heap.size + 1 + 1, 1, none⟩ (.slice R5 m5 d5)).cell? ⟨w.heap.size + 1 + 1, 1, none⟩ = some (.slice R5 m5 d5) := ((q3.put 0 (.slice A5 n5 c5)).put 1 (.slice R5 m5 d5)).cell 1
    have D := Lib.hid (OwnH.out (w := w) (g := w.heap.size + 1 + 1) BS0.ownH (by omega) b6 (by omega))
    clear q1 q2 q3 qp b6 BS0 hr
    go_wp2_with fail
    exact bodyPost_ret (v := .tuple #[.agg #[.slice A5 n5 c5, .slice R5 m5 d5], .bool false]) (by simp [results, Tryd.results19, go_sem, *]) rfl ⟨_, _, by rw [HF.out], by rw [HF.out]; exact D.out.1, D.out.2⟩
  have HC := Lib.hid hr
  clear hr
  have x0 : w6.cell? ⟨w.heap.size, 0, none⟩ = some (.slice A n c) := q1.cell 0
  have x1 : w6.cell? ⟨w.heap.size, 1, none⟩ = some (.slice R m d) := q1.cell 1
  have y0 : w6.cell? ⟨w.heap.size + 1, 0, none⟩ = some (.int .i64 o.op) := q2.cell 0
  have y1 : w6.cell? ⟨w.heap.size + 1, 1, none⟩ = some (.int .i64 o.a) := q2.cell 1
  have y2 : w6.cell? ⟨w.heap.size + 1, 2, none⟩ = some (.int .i64 o.b) := q2.cell 2
  have y3 : w6.cell? ⟨w.heap.size + 1, 3, none⟩ = some (.int .i64 o.c) := q2.cell 3
  go_wp2_with fail
  refine (hasRoom_any A R n c m d o w6).mono ?_
  obtain ⟨r, hr⟩ : ∃ r, decide (¬ (o.op = 1 ∧ 40 ≤ n)) = r := ⟨_, rfl⟩
  rw [hr]
  rintro e w7 ⟨rfl, b1⟩
  replace q1 := q1.keep b1 q1.lt
  replace q2 := q2.keep b1 q2.lt
  replace q3 := q3.keep b1 q3.lt
  replace qp := qp.keep b1 qp.lt
  replace b6 := b6.trans (b1.mono b6.size)
  replace BS0 := BS0.up b1
  clear b1 x0 x1 y0 y1 y2 y3 v0 v1
  cases r
  · have v0 : w7.cell? ⟨b8, 0, none⟩ = some (.slice A5 n5 c5) := BS0.box.cell 0
    have v1 : w7.cell? ⟨b8, 1, none⟩ = some (.slice R5 m5 d5) := BS0.box.cell 1
    have HF := Lib.hid (show Hps.stepH h o = (h, false) by
      have hr := of_decide_eq_false hr
      have h1 : o.op = 1 := by omega
      have h2 : 40 ≤ n := by omega
      exact Hps.stepH_full HV.out HOK.out h1 (by rw [HLC.out]; omega))
    have r2 : (w7).frozen? ⟨w.heap.size + 1 + 1, 0, none⟩ = false := q3.frozen 0
    have r3 : (w7).frozen? ⟨w.heap.size + 1 + 1, 1, none⟩ = false := q3.frozen 1
    have r4 : (w7).cell? ⟨w.heap.size + 1 + 1, 0, none⟩ = some (.slice none 0 0) := q3.cell 0
    have r5 : (w7).cell? ⟨w.heap.size + 1 + 1, 1, none⟩ = some (.slice none 0 0) := q3.cell 1
    have r6 : (((w7).setCell ⟨w.heap.size + 1 + 1, 0, none⟩ (.slice A5 n5 c5)).setCell ⟨w.heap.size + 1 + 1, 1, none⟩ (.slice R5 m5 d5)).cell? ⟨w.heap.size + 1 + 1, 0, none⟩ = some (.slice A5 n5 c5) := ((q3.put 0 (.slice A5 n5 c5)).put 1 (.slice R5 m5 d5)).cell 0
    have r7 : (((w7).setCell ⟨w.heap.size + 1 + 1, 0, none⟩ (.slice A5 n5 c5)).setCell ⟨w.heap.size + 1 + 1, 1, none⟩ (.slice R5 m5 d5)).cell? ⟨w.heap.size + 1 + 1, 1, none⟩ = some (.slice R5 m5 d5) := ((q3.put 0 (.slice A5 n5 c5)).put 1 (.slice R5 m5 d5)).cell 1
    have D := Lib.hid (OwnH.out (w := w) (g := w.heap.size + 1 + 1) BS0.ownH (by omega) b6 (by omega))
    clear q1 q2 q3 qp b6 BS0 hr
    go_wp2_with fail
    exact bodyPost_ret (v := .tuple #[.agg #[.slice A5 n5 c5, .slice R5 m5 d5], .bool false]) (by simp [results, Tryd.results19, go_sem, *]) rfl ⟨_, _, by rw [HF.out], by rw [HF.out]; exact D.out.1, D.out.2⟩
  have HF := Lib.hid (Hps.stepH_does HV.out HOK.out HC.out (by
    have hr := of_decide_eq_true hr
    rw [HLC.out]
    omega))
  clear hr
  have y0 : w7.cell? ⟨w.heap.size + 1, 0, none⟩ = some (.int .i64 o.op) := q2.cell 0
  have y1 : w7.cell? ⟨w.heap.size + 1, 1, none⟩ = some (.int .i64 o.a) := q2.cell 1
  have y2 : w7.cell? ⟨w.heap.size + 1, 2, none⟩ = some (.int .i64 o.b) := q2.cell 2
  have y3 : w7.cell? ⟨w.heap.size + 1, 3, none⟩ = some (.int .i64 o.c) := q2.cell 3
  have z4 : w7.cell? ⟨b5, 4, none⟩ = some (.func (.func g) #[] #[]) := qp.cell 4
  have hen2 := HE2.out
  go_wp2_with fail
  clear hen2
  refine (HG.out HC.out _ _ _ _ _ _ BS0).mono ?_
  rintro e w8 ⟨⟨ev, rfl⟩, vc', vr', rvs', BS1⟩
  replace q3 := Q3K.out.keep BS1.low hsz3
  have b9 : Below w.heap.size w w8 := B3K.out.trans (BS1.low.mono B3K.out.size)
  obtain ⟨A6, n6, c6, R6, m6, d6, rfl, rfl⟩ := BS1.ownH.slices
  clear y0 y1 y2 y3 z4 q1 q2 qp BS0
  have v0 : w8.cell? ⟨b8, 0, none⟩ = some (.slice A6 n6 c6) := BS1.box.cell 0
  have v1 : w8.cell? ⟨b8, 1, none⟩ = some (.slice R6 m6 d6) := BS1.box.cell 1
  have r2 : (w8).frozen? ⟨w.heap.size + 1 + 1, 0, none⟩ = false := q3.frozen 0
  have r3 : (w8).frozen? ⟨w.heap.size + 1 + 1, 1, none⟩ = false := q3.frozen 1
  have r4 : (w8).cell? ⟨w.heap.size + 1 + 1, 0, none⟩ = some (.slice none 0 0) := q3.cell 0
  have r5 : (w8).cell? ⟨w.heap.size + 1 + 1, 1, none⟩ = some (.slice none 0 0) := q3.cell 1
  have r6 : (((w8).setCell ⟨w.heap.size + 1 + 1, 0, none⟩ (.slice A6 n6 c6)).setCell ⟨w.heap.size + 1 + 1, 1, none⟩ (.slice R6 m6 d6)).cell? ⟨w.heap.size + 1 + 1, 0, none⟩ = some (.slice A6 n6 c6) := ((q3.put 0 (.slice A6 n6 c6)).put 1 (.slice R6 m6 d6)).cell 0
  have r7 : (((w8).setCell ⟨w.heap.size + 1 + 1, 0, none⟩ (.slice A6 n6 c6)).setCell ⟨w.heap.size + 1 + 1, 1, none⟩ (.slice R6 m6 d6)).cell? ⟨w.heap.size + 1 + 1, 1, none⟩ = some (.slice R6 m6 d6) := ((q3.put 0 (.slice A6 n6 c6)).put 1 (.slice R6 m6 d6)).cell 1
  have D := Lib.hid (OwnH.out (w := w) (g := w.heap.size + 1 + 1) BS1.ownH (by omega) b9 (by omega))
  clear q3 b9 BS1
  go_wp2_with fail
  exact bodyPost_ret (v := .tuple #[.agg #[.slice A6 n6 c6, .slice R6 m6 d6], .bool true]) (by simp [results, Tryd.results19, go_sem, *]) rfl ⟨_, _, by rw [HF.out], by rw [HF.out]; exact D.out.1, D.out.2⟩
theorem exec_1 {a b cc : Int} {h : Hp} (hc : Hps.canH h ⟨1, a, b, cc⟩ = true) : ExecF 127 ⟨1, a, b, cc⟩ h := by
  obtain ⟨hv, ho⟩ := Hps.canH_parts hc
  obtain ⟨⟨a1, a2⟩, ⟨b1, b2⟩, _⟩ := (Hps.okCm_new rfl).1 ho
  simp only at a1 a2 b1 b2
  obtain ⟨a, rfl⟩ := Int.eq_ofNat_of_zero_le a1
  obtain ⟨b, rfl⟩ := Int.eq_ofNat_of_zero_le b1
  exact exec_new hv (by omega) (by omega)
theorem exec_2 {a b cc : Int} {h : Hp} (hc : Hps.canH h ⟨2, a, b, cc⟩ = true) : ExecF 129 ⟨2, a, b, cc⟩ h := by
  obtain ⟨hv, ho⟩ := Hps.canH_parts hc
  rw [Hps.canH_get hv ho rfl] at hc
  obtain ⟨⟨a1, a2⟩, ⟨b1, b2⟩, ⟨c1, c2⟩⟩ := (Hps.okCm_get (.inl rfl)).1 ho
  simp only at a1 a2 b1 b2 c1 c2 hc
  obtain ⟨a, rfl⟩ := Int.eq_ofNat_of_zero_le a1
  obtain ⟨b, rfl⟩ := Int.eq_ofNat_of_zero_le b1
  obtain ⟨cc, rfl⟩ := Int.eq_ofNat_of_zero_le c1
  obtain ⟨k, cl, hk, hcl, hp⟩ := Hps.placeH_iff.1 hc
  exact exec_get hv (by omega) (by omega) hk hcl (by omega)
theorem exec_3 {a b cc : Int} {h : Hp} (hc : Hps.canH h ⟨3, a, b, cc⟩ = true) : ExecF 131 ⟨3, a, b, cc⟩ h := by
  obtain ⟨hv, ho⟩ := Hps.canH_parts hc
  rw [Hps.canH_set hv ho rfl] at hc
  obtain ⟨⟨a1, a2⟩, ⟨b1, b2⟩, ⟨c1, c2⟩⟩ := (Hps.okCm_get (.inr rfl)).1 ho
  simp only at a1 a2 b1 b2 c1 c2 hc
  obtain ⟨a, rfl⟩ := Int.eq_ofNat_of_zero_le a1
  obtain ⟨b, rfl⟩ := Int.eq_ofNat_of_zero_le b1
  obtain ⟨cc, rfl⟩ := Int.eq_ofNat_of_zero_le c1
  obtain ⟨k, cl, hk, hcl, hp⟩ := Hps.placeH_iff.1 hc
  exact exec_set hv (by omega) (by omega) hk hcl (by omega)
theorem exec_4 {a b cc : Int} {h : Hp} (hc : Hps.canH h ⟨4, a, b, cc⟩ = true) : ExecF 132 ⟨4, a, b, cc⟩ h := by
  obtain ⟨hv, ho⟩ := Hps.canH_parts hc
  obtain ⟨⟨a1, a2⟩, ⟨b1, b2⟩, _⟩ := (Hps.okCm_copy rfl).1 ho
  simp only at a1 a2 b1 b2
  obtain ⟨a, rfl⟩ := Int.eq_ofNat_of_zero_le a1
  obtain ⟨b, rfl⟩ := Int.eq_ofNat_of_zero_le b1
  exact exec_copy hv (by omega) (by omega)
theorem exec_5 {a b cc : Int} {h : Hp} (hc : Hps.canH h ⟨5, a, b, cc⟩ = true) : ExecF 133 ⟨5, a, b, cc⟩ h := by
  obtain ⟨hv, ho⟩ := Hps.canH_parts hc
  obtain ⟨a1, a2⟩ := Hps.okCm_a ho
  simp only at a1 a2
  obtain ⟨a, rfl⟩ := Int.eq_ofNat_of_zero_le a1
  exact exec_drop hv (by omega)
theorem exec_6 {a b cc : Int} {h : Hp} (hc : Hps.canH h ⟨6, a, b, cc⟩ = true) : ExecF 135 ⟨6, a, b, cc⟩ h := by
  obtain ⟨hv, ho⟩ := Hps.canH_parts hc
  obtain ⟨a1, a2⟩ := Hps.okCm_a ho
  rw [Hps.canH_data hv ho rfl, decide_eq_true_iff] at hc
  simp only at a1 a2 hc
  obtain ⟨a, rfl⟩ := Int.eq_ofNat_of_zero_le a1
  have hr4 := (Hps.valid_iff.1 hv).2.2.1
  have hx := List.getElem?_eq_getElem (show a < h.rt.length by omega)
  generalize h.rt[a]'(by omega) = x at hx
  have hk := Hps.rootAt_nat hx
  rw [hk] at hc
  obtain ⟨k, rfl⟩ := Int.eq_ofNat_of_zero_le hc
  obtain ⟨k', e, hl, _⟩ := Hps.okRef_nat (Hps.valid_root hv hx) hc
  have e : k = k' := by omega
  subst e
  exact exec_data hv (by omega) hk (List.getElem?_eq_getElem hl)
theorem stepHeap_any (A R : Option Addr) (n c m d : Nat) (h : Hp) (o : Cm) (w : World) (hs : HS w w.heap.size A n R m h) (hn : n ≤ 1099511627776) (hm : m ≤ 1099511627776) (hc : n ≤ c) (hd : m ≤ d) :
    Calls Tryd.prog 19 #[heapV A n c R m d, cmV o] w (GaveH2 w (Hps.stepH h o).1 (Hps.stepH h o).2) := by
  by_cases hb : o.op < 1 ∨ 6 < o.op
  · exact stepHeap_bad A R n c m d h o w hb
  · obtain ⟨op, a, b, cc⟩ := o
    simp only at hb
    obtain rfl | rfl | rfl | rfl | rfl | rfl : op = 1 ∨ op = 2 ∨ op = 3 ∨ op = 4 ∨ op = 5 ∨ op = 6 := by omega
    · exact stepHeap_walk _ _ _ _ _ A R n c m d h _ w hs hn hm hc hd (operationOf_1 a b cc) (fun hv ho => poss_always (Hps.canH_else hv ho (by simp) (by simp) (by simp))) exec_1 (run_entered Tryd.func126 (by decide) (by rfl)) (run_entered Tryd.func127 (by decide) (by rfl))
    · exact stepHeap_walk _ _ _ _ _ A R n c m d h _ w hs hn hm hc hd (operationOf_2 a b cc) (fun hv ho => poss_get hv ho rfl) exec_2 (run_entered Tryd.func128 (by decide) (by rfl)) (run_entered Tryd.func129 (by decide) (by rfl))
    · exact stepHeap_walk _ _ _ _ _ A R n c m d h _ w hs hn hm hc hd (operationOf_3 a b cc) (fun hv ho => poss_set hv ho rfl) exec_3 (run_entered Tryd.func130 (by decide) (by rfl)) (run_entered Tryd.func131 (by decide) (by rfl))
    · exact stepHeap_walk _ _ _ _ _ A R n c m d h _ w hs hn hm hc hd (operationOf_4 a b cc) (fun hv ho => poss_always (Hps.canH_else hv ho (by simp) (by simp) (by simp))) exec_4 (run_entered Tryd.func126 (by decide) (by rfl)) (run_entered Tryd.func132 (by decide) (by rfl))
    · exact stepHeap_walk _ _ _ _ _ A R n c m d h _ w hs hn hm hc hd (operationOf_5 a b cc) (fun hv ho => poss_always (Hps.canH_else hv ho (by simp) (by simp) (by simp))) exec_5 (run_entered Tryd.func126 (by decide) (by rfl)) (run_entered Tryd.func133 (by decide) (by rfl))
    · exact stepHeap_walk _ _ _ _ _ A R n c m d h _ w hs hn hm hc hd (operationOf_6 a b cc) (fun hv ho => poss_data hv ho rfl) exec_6 (run_entered Tryd.func134 (by decide) (by rfl)) (run_entered Tryd.func135 (by decide) (by rfl))
end Go.Proofs.YtfgdenmlfloloaaDoor

namespace Go.Proofs.YtfgdenmlfloloaaDoor
open Go.RowKit
set_option maxRecDepth 100000
/-- k times -1, then 0 -/
def rep4 (k : Nat) : List Value := List.replicate k (.int .i64 (-1)) ++ List.replicate (4 - k) (.int .i64 0)
def RowK (w : World) (g k : Nat) : Prop := w.heap[g]? = some (.cells (rep4 k).toArray 3 (0, 0))
theorem RowK.cell {w : World} {g k j : Nat} (h : RowK w g k) (hj : j < k) : w.cell? ⟨g, j, none⟩ = some (.int .i64 (-1)) := by
  have : (rep4 k)[j]? = some (.int .i64 (-1)) := by
    unfold rep4
    rw [List.getElem?_append_left (by simpa using hj)]
    simp [hj]
  have e : w.cell? ⟨g, j, none⟩ = (rep4 k).toArray[j]? := Rw.cell (cs := (rep4 k).toArray) h j
  rw [e]
  simpa using this
theorem RowK.put {w : World} {g k : Nat} (h : RowK w g k) (j : Nat) : RowK (w.setRow g (rep4 j).toArray) g j := setRow_heap w g _ _ _ _ h
end Go.Proofs.YtfgdenmlfloloaaDoor

namespace Go.Proofs.YtfgdenmlfloloaaDoor
open Go.RowKit
set_option maxRecDepth 100000
end Go.Proofs.YtfgdenmlfloloaaDoor

namespace Go.Proofs.YtfgdenmlfloloaaDoor
open Go.ChangeShapes Go.WideShapes Go.ChangeAt Go.RowKit Go.Deep
theorem own : ownKnob Tryd.prog.godebug = none := by kernel_rfl
theorem laidOut : laidOutB Tryd.prog = true := by kernel_rfl
section
variable {H : Type} {enc : TypeId × Value → H} {P : Program} {W W' : World}
/-- all arguments read as they did -/
theorem stay_all (hl : laidOutB P = true) (hb : Below W.heap.size W W') : ∀ {ts : List TypeId} {vs : List Value} {ds : List (DataW H)} {p : List MemPlace},
    (∀ t ∈ ts, P.readableRec t = true ∧ t < P.types.size) → DataW.TrodAll enc P W 0 (fun _ => true) true ts vs ds p → (∀ x ∈ p, x.block < W.heap.size) →
    DataW.TrodAll enc P W' 0 (fun b => decide (b < W.heap.size)) true ts vs ds p
  | [], _, _, _, _, h, _ => by
    obtain ⟨rfl, rfl, rfl⟩ := trodAll_nil h
    exact trodAll_mk0
  | t :: ts, _, _, _, hts, h, hlt => by
    obtain ⟨v, vs, d, ds, p, q, rfl, rfl, rfl, h0, hr⟩ := trodAll_cons h
    have ht := hts t (by simp)
    exact trodAll_cons_mk (Below.trod hl ht.1 ht.2 h0 hb (fun x hx => hlt x (by simp [hx])))
      (stay_all hl hb (fun t' h' => hts t' (by simp [h'])) hr (fun x hx => hlt x (by simp [hx])))
/-- a law that returned true and left old memory alone has met its row -/
theorem law_post {f : Func} {s : ChangeSpec} {args : Array Value} {ds gs : List (DataW H)} {before : List MemPlace} {tb : TypeId}
    (hl : laidOutB P = true) (hts : ∀ t ∈ f.params.toList, P.readableRec t = true ∧ t < P.types.size) (hrt : f.resultTypes = #[tb]) (htb : P.underlying tb = some .bool)
    (hvars : s.vars = []) (hfn : s.fn H ds = { results := [.lit (.bool true)], args := ds })
    (hW : DataW.Whole enc P f.params.toList s.vars false W args.toList ds gs before) (hb : Below W.heap.size W W') :
    s.post enc P f false true false false W args (.bool true) W' := by
  have hW' := hW
  obtain ⟨p, q, hA, hV, rfl, hfz, hnd⟩ := hW
  rw [hvars] at hV
  obtain ⟨rfl, rfl⟩ := trodVars_none hV
  have hlt : ∀ x ∈ p, x.block < W.heap.size := fun x hx => by simpa using hW'.lt x (by simp [hx])
  refine ⟨ds, [], p ++ [], [], p, [], hW', ?_, ?_, ?_, ?_, fun h => by cases h⟩
  · rw [List.append_nil, hfn, hrt]
    exact trodAll_mk1 (shut_bool htb true)
  · rw [List.append_nil, hfn]
    exact stay_all hl hb hts hA hlt
  · rw [List.append_nil, hfn, hvars]
    rfl
  · exact hb.frame _
/-- an address at which a cell lies has no spot -/
theorem addr_of_cell {w : World} {a : Addr} {v : Value} (h : w.cell? a = some v) : a = ⟨a.block, a.off, none⟩ := by
  obtain ⟨b, o, sp⟩ := a
  cases sp with
  | none => rfl
  | some s =>
    unfold World.cell? at h
    simp only [] at h
    split at h <;> simp at h
theorem add_none (b o n : Nat) : (⟨b, o, none⟩ : Addr).add n = ⟨b, o + n, none⟩ := by
  unfold Addr.add
  split
  · next h => subst h; rfl
  · rfl
theorem i64_of_wf {n : Int} (h : (Lit.int .i64 n).wf = true) : I64 n := by
  simpa [Lit.wf, IntKind.min, IntKind.max, IntKind.signed, IntKind.bits, I64] using h
end
end Go.Proofs.YtfgdenmlfloloaaDoor

