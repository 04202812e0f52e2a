/- How a heap with counts of the laws that came in lies in memory. No conditions. -/
import Derived.Test.YtakdjiojahlnmaaKv
namespace Go.Proofs.Ytakdjiojahlnmaa
open Go.ChangeShapes Go.WideShapes Go.ChangeAt Go.RowKit Go.Deep
set_option maxRecDepth 100000

section
variable {H : Type} {enc : TypeId × Value → H} {P : Program} {W : World}
theorem heap_trod {t tc tn e tb ti : TypeId} {h0 h1 f0 f1 f2 : Field} {v0 v1 : Value} {fuel : Nat} {x : DataW H × List MemPlace}
    (hh : P.underlying t = some (.struct #[h0, h1])) (s0 : h0.type = tc) (s1 : h1.type = tn) (p0 : h0.offset = 0) (p1 : h1.offset = 1) (ctc : P.cellsOf tc = 1) (ctn : P.cellsOf tn = 1)
    (htc : P.underlying tc = some (.slice e)) (htn : P.underlying tn = some (.slice ti)) (he : P.underlying e = some (.struct #[f0, f1, f2])) (ce : P.cellsOf e = 3)
    (t0 : f0.type = tb) (t1 : f1.type = ti) (t2 : f2.type = tn) (o0 : f0.offset = 0) (o1 : f1.offset = 1) (o2 : f2.offset = 2)
    (htb : P.underlying tb = some .bool) (hti : P.underlying ti = some (.int .i64)) (cb : P.cellsOf tb = 1) (ci : P.cellsOf ti = 1)
    (hf : DataW.trod enc P W 0 (fun _ => true) true fuel t [v0, v1] = some x) (hlt : ∀ y ∈ x.2, y.block < W.heap.size) :
    ∃ (A R : Option Addr) (n c m dd : Nat) (hp : Hp), v0 = .slice A n c ∧ v1 = .slice R m dd ∧ n ≤ 9223372036854775807 ∧ m ≤ 9223372036854775807 ∧ HS W W.heap.size A n R m hp ∧ ∀ cl ∈ hp.cs, cl.r.length ≤ 9223372036854775807 := by
  obtain ⟨d, ps⟩ := x
  obtain ⟨ys, k, _, hys, _, hyl, hfd⟩ := DataW.trod_struct hh hf
  have g0 := hfd 0 h0 rfl
  have g1 := hfd 1 h1 rfl
  rw [s0, p0, ctc] at g0
  rw [s1, p1, ctn] at g1
  rw [List.getElem?_eq_getElem (by rw [hyl]; simp)] at g0 g1
  simp at g0 g1
  have hpl : ∀ (i : Nat) (hi : i < ys.length), ∀ y ∈ (ys[i]).2, y.block < W.heap.size := fun i hi y hy => by
    apply hlt
    have := congrArg Prod.snd hys
    simp only [] at this
    rw [this, List.mem_flatMap]
    exact ⟨_, List.getElem_mem _, hy⟩
  obtain ⟨A, n, c, cs, e0, _, hn, hC, ha⟩ := cells_trod htc he ce t0 t1 t2 o0 o1 o2 htb hti htn cb ci ctn g0 (hpl 0 _)
  obtain ⟨R, m, dd, xs, e1, _, hm, hI, hx⟩ := nums_trod htn hti ci g1 (hpl 1 _)
  subst e0 e1
  exact ⟨A, R, n, c, m, dd, ⟨cs, xs⟩, rfl, rfl, hn, hm, ⟨hC, hI⟩, fun cl hcl => (ha cl hcl).2.2⟩
theorem open_counted {u t tc tn e tb ti : TypeId} {k0 k1 h0 h1 f0 f1 f2 : Field} {r : Reach} {b0 : Nat} {v : Value} {d : DataW H} {ps : List MemPlace}
    (hu : P.underlying u = some (.struct #[k0, k1])) (cu : P.cellsOf u = 3) (y0 : k0.type = t) (y1 : k1.type = tn) (x0 : k0.offset = 0) (x1 : k1.offset = 2) (ct : P.cellsOf t = 2)
    (hh : P.underlying t = some (.struct #[h0, h1])) (s0 : h0.type = tc) (s1 : h1.type = tn) (p0 : h0.offset = 0) (p1 : h1.offset = 1) (ctc : P.cellsOf tc = 1) (ctn : P.cellsOf tn = 1)
    (htc : P.underlying tc = some (.slice e)) (htn : P.underlying tn = some (.slice ti)) (he : P.underlying e = some (.struct #[f0, f1, f2])) (ce : P.cellsOf e = 3)
    (t0 : f0.type = tb) (t1 : f1.type = ti) (t2 : f2.type = tn) (o0 : f0.offset = 0) (o1 : f1.offset = 1) (o2 : f2.offset = 2)
    (htb : P.underlying tb = some .bool) (hti : P.underlying ti = some (.int .i64)) (cb : P.cellsOf tb = 1) (ci : P.cellsOf ti = 1)
    (hval : Value.okWide P W r b0 u v) (h : DataW.Trod enc P W 0 (fun _ => true) true u v d ps) (hlt : ∀ x ∈ ps, x.block < W.heap.size) :
    ∃ (A R K : Option Addr) (n c m dd p q : Nat) (hp : Hp) (l : List Int), v = .agg #[.slice A n c, .slice R m dd, .slice K p q] ∧ n ≤ 9223372036854775807 ∧ m ≤ 9223372036854775807 ∧ p ≤ 9223372036854775807 ∧ HS W W.heap.size A n R m hp ∧ IS W W.heap.size K p l ∧ ∀ cl ∈ hp.cs, cl.r.length ≤ 9223372036854775807 := by
  obtain ⟨cs, rfl, hsz⟩ := okWide_struct hu hval
  rw [cu] at hsz
  obtain ⟨fuel, hf⟩ := h
  obtain ⟨ys, k, _, hys, _, hyl, hfd⟩ := DataW.trod_struct hu hf
  obtain ⟨l⟩ := cs
  match l, hsz with
  | [v0, v1, v2], _ =>
    have g0 := hfd 0 k0 rfl
    have g1 := hfd 1 k1 rfl
    rw [y0, x0, ct] at g0
    rw [y1, x1, ctn] at g1
    rw [List.getElem?_eq_getElem (by rw [hyl]; simp)] at g0 g1
    simp at g0 g1
    have hpl : ∀ (i : Nat) (hi : i < ys.length), ∀ y ∈ (ys[i]).2, y.block < W.heap.size := fun i hi y hy => by
      apply hlt
      have := congrArg Prod.snd hys
      simp only [] at this
      rw [this, List.mem_flatMap]
      exact ⟨_, List.getElem_mem _, hy⟩
    obtain ⟨A, R, n, c, m, dd, hp, rfl, rfl, hn, hm, hs, hb⟩ := heap_trod hh s0 s1 p0 p1 ctc ctn htc htn he ce t0 t1 t2 o0 o1 o2 htb hti cb ci g0 (hpl 0 _)
    obtain ⟨K, p, q, xs, rfl, _, hp3, hI, _⟩ := nums_trod htn hti ci g1 (hpl 1 _)
    exact ⟨A, R, K, n, c, m, dd, p, q, hp, xs, rfl, hn, hm, hp3, hs, hI, hb⟩
end

end Go.Proofs.Ytakdjiojahlnmaa
