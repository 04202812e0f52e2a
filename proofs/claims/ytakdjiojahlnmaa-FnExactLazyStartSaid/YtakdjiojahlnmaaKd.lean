/- While a possible instruction is executed on a copy (the model's l8Do): the copy and the boxes, and what is written into the copy. No conditions. -/
import Derived.Test.YtakdjiojahlnmaaHh
import Derived.Test.YtakdjiojahlnmaaHj
import Derived.Test.YtakdjiojahlnmaaKc
namespace Go.Proofs.Ytakdjiojahlnmaa
open Go.RowKit

theorem wpList_appendC {w : World} {ops : Array Oper} {rest : List Oper} {o : Oper} {a : Act} {Q : Exit → Act → World → Prop} (hgd : o.guard = none) (s x : Operand)
    (ho : o.op = .call { callee := .builtin .append, args := #[s, x], argTypes := #[23, 23] })
    (base : Nat) (v : Value) (n : Nat) (vs : List Value) (hs : a.eval s = v) (hown : w.ownsRow base 45 3 v n vs) (gs : Nat) (u : Bool) (d : Int) (A8 : Option Addr) (m8 c8 : Nat) (hx : a.eval x = .slice (some ⟨gs, 0, none⟩) 1 1)
    (hr : Rw w gs 45 #[.bool u, .int .i64 d, .slice A8 m8 c8]) (hn : n + 1 ≤ 1099511627776) (hbase : base ≤ w.heap.size)
    (h : ∀ v' w' A9 c9, v' = .slice A9 (n + 1) c9 → w'.ownsRow base 45 3 v' (n + 1) (vs ++ [.bool u, .int .i64 d, .slice A8 m8 c8]) → w.grownBy w' v.ownBlock → (v'.ownBlock = v.ownBlock ∨ v'.ownBlock = some w.heap.size) → wpList Try.prog ops Q rest (a.put o.dst v') w') : wpList Try.prog ops Q (o :: rest) a w :=
  wpList_plain hgd fun _ hK => app_stepC hgd s x ho base v n vs hs hown gs u d A8 m8 c8 hx hr hn hbase fun v' w' A9 c9 e1 e2 e3 e4 => hK _ _ (h v' w' A9 c9 e1 e2 e3 e4)

theorem OwnI.cell_at {w : World} {base g c n j : Nat} {xs : List Int} (h : OwnI w base (.slice (some ⟨g, 0, none⟩) n c) xs) (hj : j < n) : ∃ x : Int, xs[j]? = some x ∧ w.cell? ⟨g, j, none⟩ = some (.int .i64 x) := by
  obtain ⟨g', o', x, e, _, hx, hc⟩ := h.reads.at_ hj
  injection e with e
  injection e with e1 e2
  subst e1 e2
  rw [Nat.zero_add] at hc
  exact ⟨x, hx, hc⟩
/-- a cell of a heap of the call's own, in memory -/
theorem OwnHx.cell_at {w : World} {base n c k : Nat} {A : Option Addr} {vr : Value} {rvs : List Value} {h : Hp} {cl : Cl} (S : OwnHx w base (.slice A n c) vr rvs h) (hc : h.cs[k]? = some cl) :
    ∃ (g : Nat) (v : Value), A = some ⟨g, 0, none⟩ ∧ base ≤ g ∧ g < w.heap.size ∧ rvs[k]? = some v ∧ OwnI w base v cl.r ∧ w.cell? ⟨g, k * 3, none⟩ = some (.bool cl.u) ∧ w.cell? ⟨g, k * 3 + 1, none⟩ = some (.int .i64 cl.d) ∧ w.cell? ⟨g, k * 3 + 2, none⟩ = some v ∧ ∀ i, w.frozen? ⟨g, i, none⟩ = false := by
  have hk : k < h.cs.length := (List.getElem?_eq_some_iff.1 hc).1
  obtain ⟨v, hv, hi⟩ := S.ref hc
  obtain ⟨f1, f2, f3⟩ := flatC_at _ _ _ _ _ hc hv
  obtain ⟨A', c', R', d', e1, _, _, _, fA, _⟩ := S.form
  injection e1 with e1 e2 e3
  subst e1 e2 e3
  obtain ⟨g, rfl, h1, h2⟩ := fA (by omega)
  exact ⟨g, v, rfl, h1, h2, hv, hi, (World.ownsRow.cellAt S.row _ (by omega)).trans f1, (World.ownsRow.cellAt S.row _ (by omega)).trans f2, (World.ownsRow.cellAt S.row _ (by omega)).trans f3, fun i => World.ownsRow.frozenAt S.row i⟩
/-- a cell is put behind the last one -/
theorem OwnHx.snoc {w w1 : World} {base : Nat} {vc vr v9 v8 : Value} {rvs : List Value} {h : Hp} {cl : Cl} (S : OwnHx w base vc vr rvs h) (hG : w.grownBy w1 vc.ownBlock)
    (o9 : w1.ownsRow base 45 3 v9 (h.cs.length + 1) (flatC h.cs rvs ++ [.bool cl.u, .int .i64 cl.d, v8])) (q : v9.ownBlock = vc.ownBlock ∨ v9.ownBlock = some w.heap.size)
    (o8 : OwnI w base v8 cl.r) (hap : ∀ v ∈ vc :: vr :: rvs, v8.ownBlock = none ∨ v8.ownBlock ≠ v.ownBlock) : OwnHx w1 base v9 vr (rvs ++ [v8]) ⟨h.cs ++ [cl], h.rt⟩ := by
  have hsp := S.sep
  unfold Sep at hsp
  simp only [List.pairwise_cons, List.mem_cons] at hsp
  obtain ⟨sp1, sp2, sp3⟩ := hsp
  have h8lt : ∀ kk, v8.ownBlock = some kk → kk < w.heap.size := fun kk hk => (World.ownsRow.lt o8 kk hk).2
  have hvr : ∀ kk, vr.ownBlock = some kk → kk < w.heap.size := fun kk hk => (S.blocks (by simp) hk).2
  have hrv : ∀ v ∈ rvs, ∀ kk, v.ownBlock = some kk → kk < w.heap.size := fun v hv kk hk => (S.blocks (by simp [hv]) hk).2
  have h9old : ∀ v : Value, (vc.ownBlock = none ∨ vc.ownBlock ≠ v.ownBlock) → (∀ kk, v.ownBlock = some kk → kk < w.heap.size) → v9.ownBlock = none ∨ v9.ownBlock ≠ v.ownBlock := fun v hv hlt' => by
    rcases q with e | e
    · rw [e]; exact hv
    · right
      rw [e]
      intro e'
      have := hlt' _ e'.symm
      omega
  refine ⟨by simp [S.len], ?_, ?_, S.roots.far hG (sep_back (sp1 vr (.inl rfl))), ?_⟩
  · have e : flatC (h.cs ++ [cl]) (rvs ++ [v8]) = flatC h.cs rvs ++ [.bool cl.u, .int .i64 cl.d, v8] := by
      rw [flatC_append _ _ _ _ S.len]
      simp [flatC]
    rw [e, List.length_append, List.length_singleton]
    exact o9
  · intro j c' v hc' hv
    simp only at hc'
    rcases Nat.lt_or_ge j h.cs.length with hj | hj
    · rw [List.getElem?_append_left hj] at hc'
      rw [List.getElem?_append_left (by rw [S.len]; exact hj)] at hv
      exact (S.refs j c' v hc' hv).far hG (sep_back (sp1 v (.inr (List.mem_of_getElem? hv))))
    · rw [List.getElem?_append_right hj] at hc'
      rw [List.getElem?_append_right (by rw [S.len]; exact hj), S.len] at hv
      have hjk : j - h.cs.length = 0 := by
        rcases Nat.eq_zero_or_pos (j - h.cs.length) with e | e
        · exact e
        · rw [List.getElem?_eq_none (by simp; omega)] at hv; cases hv
      rw [hjk] at hc' hv
      simp at hc' hv
      subst hc' hv
      exact o8.far hG (hap vc (by simp))
  · unfold Sep
    simp only [List.pairwise_cons, List.mem_cons, List.mem_append, List.pairwise_append, List.not_mem_nil, or_false]
    refine ⟨fun v hv => ?_, fun v hv => ?_, sp3, ⟨by simp, List.Pairwise.nil⟩, fun a ha v hv => ?_⟩
    · rcases hv with rfl | hv | rfl
      · exact h9old v (sp1 v (.inl rfl)) hvr
      · exact h9old v (sp1 v (.inr hv)) (hrv v hv)
      · exact h9old v (sep_back (hap vc (by simp))) h8lt
    · rcases hv with hv | rfl
      · exact sp2 v hv
      · exact sep_back (hap vr (by simp))
    · subst hv
      exact sep_back (hap a (by simp [ha]))

/-- the copy in the box b, and the boxes of the arguments and of the result -/
structure DoSt (w wr : World) (b : Nat) (hb cb rb : Array Value) (vc vr : Value) (rvs : List Value) (h : Hp) : Prop where
  own : OwnHx wr (w.heap.size + 3) vc vr rvs h
  apart : Apart (some b) (vc :: vr :: rvs)
  box : Rw wr b 26 #[vc, vr]
  arg : Rw wr w.heap.size 26 hb
  cmd : Rw wr (w.heap.size + 1) 128 cb
  res : Rw wr (w.heap.size + 2) 26 rb
  bel : Below w.heap.size w wr
  lo : w.heap.size + 3 ≤ b
section
variable {w wr w1 : World} {b g c d i k : Nat} {hb cb rb : Array Value} {vc vr : Value} {rvs : List Value} {h : Hp} {cl : Cl}
theorem DoSt.drew (S : DoSt w wr b hb cb rb vc vr rvs h) : DoSt w wr.drew b hb cb rb vc vr rvs h := by
  have hw : Below wr.heap.size wr wr.drew := (Below.refl _ _).drew
  exact ⟨S.own.below hw (Nat.le_refl _), S.apart, S.box.keep hw S.box.lt, S.arg.keep hw S.arg.lt, S.cmd.keep hw S.cmd.lt, S.res.keep hw S.res.lt, S.bel.drew, S.lo⟩
theorem DoSt.up (S : DoSt w wr b hb cb rb vc vr rvs h) (hw : Below wr.heap.size wr w1) : DoSt w w1 b hb cb rb vc vr rvs h :=
  ⟨S.own.below hw (Nat.le_refl _), S.apart, S.box.keep hw S.box.lt, S.arg.keep hw S.arg.lt, S.cmd.keep hw S.cmd.lt, S.res.keep hw S.res.lt, S.bel.trans (hw.mono S.bel.size), S.lo⟩
/-- into a block of the copy's own something is written -/
theorem DoSt.into (S : DoSt w wr b hb cb rb vc vr rvs h) {v : Value} (hv : v ∈ vc :: vr :: rvs) (hg : v.ownBlock = some g) {rvs' : List Value} {h' : Hp} (u : Value)
    (ho : OwnHx (wr.setCell ⟨g, i, none⟩ u) (w.heap.size + 3) vc vr rvs' h') (ha : ∀ v ∈ rvs', v.ownBlock = none ∨ v.ownBlock ≠ some b) : DoSt w (wr.setCell ⟨g, i, none⟩ u) b hb cb rb vc vr rvs' h' := by
  have h1 := S.own.blocks hv hg
  have h2 : b ≠ g := by
    rcases S.apart v hv with e | e
    · rw [hg] at e; cases e
    · intro e'; rw [hg] at e; exact e (by rw [e'])
  refine ⟨ho, ?_, S.box.other h2 u, S.arg.other (by omega) u, S.cmd.other (by omega) u, S.res.other (by omega) u, S.bel.setCell (p := ⟨g, i, none⟩) (by show w.heap.size ≤ g; omega) u, S.lo⟩
  intro x hx
  simp only [List.mem_cons] at hx
  rcases hx with rfl | rfl | hx
  · exact S.apart x (by simp)
  · exact S.apart x (by simp)
  · exact ha x hx
theorem DoSt.root {m : Nat} (S : DoSt w wr b hb cb rb vc (.slice (some ⟨g, 0, none⟩) m d) rvs h) (hm : h.rt.length = m) (x : Int) : DoSt w (wr.setCell ⟨g, i, none⟩ (.int .i64 x)) b hb cb rb vc (.slice (some ⟨g, 0, none⟩) m d) rvs ⟨h.cs, h.rt.set i x⟩ := by
  subst hm
  exact S.into (v := .slice (some ⟨g, 0, none⟩) h.rt.length d) (by simp) rfl _ (S.own.root x) fun v hv => S.apart v (by simp [hv])
theorem DoSt.data {n : Nat} (S : DoSt w wr b hb cb rb (.slice (some ⟨g, 0, none⟩) n d) vr rvs h) (hn : h.cs.length = n) (hc : h.cs[k]? = some cl) (x : Int) : DoSt w (wr.setCell ⟨g, k * 3 + 1, none⟩ (.int .i64 x)) b hb cb rb (.slice (some ⟨g, 0, none⟩) n d) vr rvs ⟨h.cs.set k ⟨cl.u, x, cl.r⟩, h.rt⟩ := by
  subst hn
  exact S.into (v := .slice (some ⟨g, 0, none⟩) h.cs.length d) (by simp) rfl _ (S.own.data hc x) fun v hv => S.apart v (by simp [hv])
theorem DoSt.ref1 {m : Nat} (S : DoSt w wr b hb cb rb vc vr rvs h) (hc : h.cs[k]? = some cl) (hv : rvs[k]? = some (.slice (some ⟨g, 0, none⟩) m d)) (hm : cl.r.length = m) (x : Int) : DoSt w (wr.setCell ⟨g, i, none⟩ (.int .i64 x)) b hb cb rb vc vr rvs ⟨h.cs.set k ⟨cl.u, cl.d, cl.r.set i x⟩, h.rt⟩ := by
  subst hm
  exact S.into (v := .slice (some ⟨g, 0, none⟩) cl.r.length d) (by simp [List.mem_of_getElem? hv]) rfl _ (S.own.ref1 hc hv x) fun v hv => S.apart v (by simp [hv])
/-- a cell is put behind the last one, and the box holds the new slice -/
theorem DoSt.snoc {v9 v8 : Value} (S : DoSt w wr b hb cb rb vc vr rvs h) (hG : wr.grownBy w1 vc.ownBlock)
    (o9 : w1.ownsRow (w.heap.size + 3) 45 3 v9 (h.cs.length + 1) (flatC h.cs rvs ++ [.bool cl.u, .int .i64 cl.d, v8])) (q : v9.ownBlock = vc.ownBlock ∨ v9.ownBlock = some wr.heap.size)
    (o8 : OwnI wr (w.heap.size + 3) v8 cl.r) (hap : ∀ v ∈ vc :: vr :: rvs, v8.ownBlock = none ∨ v8.ownBlock ≠ v.ownBlock) (h8b : v8.ownBlock ≠ some b) :
    DoSt w (w1.setCell ⟨b, 0, none⟩ v9) b hb cb rb v9 vr (rvs ++ [v8]) ⟨h.cs ++ [cl], h.rt⟩ := by
  have hn := S.own.snoc hG o9 q o8 hap
  have hlo := S.lo
  have hbl := S.box.lt
  have hvcb : some b ≠ vc.ownBlock := by
    rcases S.apart vc (by simp) with e | e
    · rw [e]; simp
    · exact fun h => e h.symm
  have ap : Apart (some b) (v9 :: vr :: (rvs ++ [v8])) := by
    intro v hv
    simp only [List.mem_cons, List.mem_append, List.not_mem_nil, or_false] at hv
    rcases hv with rfl | rfl | hv | rfl
    · right
      rcases q with e | e
      · rw [e]; exact fun h => hvcb h.symm
      · rw [e]; intro e'; injection e' with e'; omega
    · exact S.apart v (by simp)
    · exact S.apart v (by simp [hv])
    · exact .inr h8b
  have far : ∀ {g' : Nat} {t : TypeId} {cs : Array Value}, Rw wr g' t cs → g' < w.heap.size + 3 → Rw (w1.setCell ⟨b, 0, none⟩ v9) g' t cs := fun hr hl =>
    Rw.other (Rw.far hr hG (fun e => by have := (S.own.blocks (v := vc) (by simp) e.symm).1; omega)) (by omega) _
  refine ⟨hn.far (put_any w1 b 0 v9) ap, ap, (Rw.far S.box hG hvcb).put 0 v9, far S.arg (by omega), far S.cmd (by omega), far S.res (by omega), ?_, hlo⟩
  exact (S.bel.grown hG S.bel.size (fun kk hk => by have := (S.own.blocks (v := vc) (by simp) hk).1; omega)).setCell (p := ⟨b, 0, none⟩) (by show w.heap.size ≤ b; omega) _
/-- a whole cell is written -/
theorem DoSt.cell {rv : Value} {old : Cl} (S : DoSt w wr b hb cb rb (.slice (some ⟨g, 0, none⟩) h.cs.length c) vr rvs h) (hc : h.cs[k]? = some old) (o : OwnI wr (w.heap.size + 3) rv cl.r) (hap : ∀ v ∈ (Value.slice (some ⟨g, 0, none⟩) h.cs.length c) :: vr :: rvs, rv.ownBlock = none ∨ rv.ownBlock ≠ v.ownBlock) (h8b : rv.ownBlock = none ∨ rv.ownBlock ≠ some b) :
    DoSt w (((wr.setCell ⟨g, k * 3, none⟩ (.bool cl.u)).setCell ⟨g, k * 3 + 1, none⟩ (.int .i64 cl.d)).setCell ⟨g, k * 3 + 2, none⟩ rv) b hb cb rb (.slice (some ⟨g, 0, none⟩) h.cs.length c) vr (rvs.set k rv) ⟨h.cs.set k cl, h.rt⟩ := by
  have hm : (Value.slice (some ⟨g, 0, none⟩) h.cs.length c) ∈ (Value.slice (some ⟨g, 0, none⟩) h.cs.length c) :: vr :: rvs := by simp
  have h1 : w.heap.size + 3 ≤ g ∧ g < wr.heap.size := S.own.blocks hm rfl
  have h2 : b ≠ g := by
    rcases S.apart _ hm with e | e
    · cases e
    · intro e'; exact e (by rw [e']; rfl)
  have oth : ∀ {g' : Nat} {t : TypeId} {cs : Array Value}, Rw wr g' t cs → g' ≠ g → Rw (((wr.setCell ⟨g, k * 3, none⟩ (.bool cl.u)).setCell ⟨g, k * 3 + 1, none⟩ (.int .i64 cl.d)).setCell ⟨g, k * 3 + 2, none⟩ rv) g' t cs := fun hr hne => ((hr.other hne _).other hne _).other hne _
  refine ⟨S.own.cell hc o hap, ?_, oth S.box h2, oth S.arg (by omega), oth S.cmd (by omega), oth S.res (by omega), ?_, S.lo⟩
  · intro x hx
    simp only [List.mem_cons] at hx
    rcases hx with rfl | rfl | hx
    · exact S.apart _ (by simp)
    · exact S.apart x (by simp)
    · rcases List.mem_or_eq_of_mem_set hx with hx | rfl
      · exact S.apart x (by simp [hx])
      · exact h8b
  · exact ((S.bel.setCell (p := ⟨g, k * 3, none⟩) (by show w.heap.size ≤ g; omega) _).setCell (p := ⟨g, k * 3 + 1, none⟩) (by show w.heap.size ≤ g; omega) _).setCell (p := ⟨g, k * 3 + 2, none⟩) (by show w.heap.size ≤ g; omega) _
theorem DoSt.cellN {n : Nat} {rv : Value} {old : Cl} (S : DoSt w wr b hb cb rb (.slice (some ⟨g, 0, none⟩) n c) vr rvs h) (hn : h.cs.length = n) (hc : h.cs[k]? = some old) (o : OwnI wr (w.heap.size + 3) rv cl.r) (hap : ∀ v ∈ (Value.slice (some ⟨g, 0, none⟩) n c) :: vr :: rvs, rv.ownBlock = none ∨ rv.ownBlock ≠ v.ownBlock) (h8b : rv.ownBlock = none ∨ rv.ownBlock ≠ some b) :
    DoSt w (((wr.setCell ⟨g, k * 3, none⟩ (.bool cl.u)).setCell ⟨g, k * 3 + 1, none⟩ (.int .i64 cl.d)).setCell ⟨g, k * 3 + 2, none⟩ rv) b hb cb rb (.slice (some ⟨g, 0, none⟩) n c) vr (rvs.set k rv) ⟨h.cs.set k cl, h.rt⟩ := by
  subst hn
  exact S.cell hc o hap h8b
/-- the copy goes into the result's box -/
theorem DoSt.done (S : DoSt w wr b hb cb rb vc vr rvs h) : OwnH ((wr.setCell ⟨w.heap.size + 2, 0, none⟩ vc).setCell ⟨w.heap.size + 2, 1, none⟩ vr) w.heap.size vc vr h ∧ Below w.heap.size w ((wr.setCell ⟨w.heap.size + 2, 0, none⟩ vc).setCell ⟨w.heap.size + 2, 1, none⟩ vr) := by
  have ap : Apart (some (w.heap.size + 2)) (vc :: vr :: rvs) := S.own.apart_below (by omega)
  exact ⟨⟨rvs, ((S.own.far (put_any wr _ 0 vc) ap).far (put_any _ _ 1 vr) ap).base (by omega)⟩, (S.bel.setCell (p := ⟨w.heap.size + 2, 0, none⟩) (by simp) vc).setCell (p := ⟨w.heap.size + 2, 1, none⟩) (by simp) vr⟩
end
end Go.Proofs.Ytakdjiojahlnmaa
