/- How a lazy heap of the laws that came in lies in memory. No conditions. -/
import Derived.Test.YtakdjiojahlnmaaCn
import Derived.Test.YtakdjiojahlnmaaBo
namespace Go.Proofs.Ytakdjiojahlnmaa
open Go.ChangeShapes Go.WideShapes Go.ChangeAt Go.RowKit Go.Deep
set_option maxRecDepth 100000

section
variable {H : Type} {enc : TypeId × Value → H} {P : Program} {W : World}
/-- a slice of bools -/
theorem bools_trod {t e : TypeId} {fuel : Nat} {v : Value} {x : DataW H × List MemPlace} (ht : P.underlying t = some (.slice e)) (he : P.underlying e = some .bool) (ce : P.cellsOf e = 1)
    (hf : DataW.trod enc P W 0 (fun _ => true) true fuel t [v] = some x) (hlt : ∀ y ∈ x.2, y.block < W.heap.size) :
    ∃ (A : Option Addr) (n c : Nat) (xs : List Bool), v = .slice A n c ∧ n ≤ c ∧ n ≤ 9223372036854775807 ∧ OS W W.heap.size A n xs := by
  rcases open_slice ht hf with ⟨h0, _⟩ | ⟨a, len, cap, m, n', D, Pl, hcs, hb, hl, hm, hmm, hx, hi⟩
  · injection h0 with h0
    subst h0
    exact ⟨none, 0, 0, [], rfl, by omega, by omega, OS.none_ _ _ _⟩
  · injection hcs with hcs
    subst hcs
    simp only [if_true] at hmm
    subst hmm
    have each : ∀ i, i < len → ∃ x : Bool, W.cell? (a.add i) = some (.bool x) := by
      intro i hin
      obtain ⟨cs', h1, h2⟩ := hi i (by omega)
      rw [ce] at h1
      obtain ⟨_, hlen, hcell⟩ := World.cells?_some h1
      obtain ⟨u, e2, _⟩ := DataW.trod_bool he h2
      match cs', hlen with
      | [v0], _ =>
        simp at e2
        subst e2
        have q0 := hcell 0 (by omega)
        rw [add_add] at q0
        exact ⟨u, by simpa using q0⟩
    obtain ⟨F, hF⟩ := choose_lt each
    refine ⟨some a, len, _, (List.range len).map F, rfl, hl, by unfold maxLen at hm; omega, by simp, ?_⟩
    intro hn
    have h0 := hF 0 hn
    simp [Addr.add] at h0
    have ha := addr_of_cell h0
    have hblt : a.block < W.heap.size := by
      apply hlt (.cell a.block a.off)
      rw [hx, ce]
      apply List.mem_append_left
      rw [ha]
      simp [MemPlace.row]
      omega
    refine ⟨a.block, a.off, by rw [← ha], hblt, fun k x hx => ?_⟩
    rcases Nat.lt_or_ge k len with hk | hk
    · simp only [List.getElem?_map] at hx
      rw [List.getElem?_range hk] at hx
      simp at hx
      subst hx
      have q := hF k hk
      rw [ha, add_none] at q
      exact q
    · rw [List.getElem?_eq_none (by simpa using hk)] at hx
      cases hx
theorem open_lazy {u t tc tn e tb ti tm : TypeId} {k0 k1 k2 h0 h1 f0 f1 f2 : Field} {r : Reach} {b0 : Nat} {v : Value} {d : DataW H} {ps : List MemPlace}
    (hu : P.underlying u = some (.struct #[k0, k1, k2])) (cu : P.cellsOf u = 4) (y0 : k0.type = t) (y1 : k1.type = tm) (y2 : k2.type = ti) (x0 : k0.offset = 0) (x1 : k1.offset = 2) (x2 : k2.offset = 3) (ct : P.cellsOf t = 2) (ctm : P.cellsOf tm = 1) (htm : P.underlying tm = some (.slice tb))
    (hh : P.underlying t = some (.struct #[h0, h1])) (s0 : h0.type = tc) (s1 : h1.type = tn) (p0 : h0.offset = 0) (p1 : h1.offset = 1) (ctc : P.cellsOf tc = 1) (ctn : P.cellsOf tn = 1)
    (htc : P.underlying tc = some (.slice e)) (htn : P.underlying tn = some (.slice ti)) (he : P.underlying e = some (.struct #[f0, f1, f2])) (ce : P.cellsOf e = 3)
    (t0 : f0.type = tb) (t1 : f1.type = ti) (t2 : f2.type = tn) (o0 : f0.offset = 0) (o1 : f1.offset = 1) (o2 : f2.offset = 2)
    (htb : P.underlying tb = some .bool) (hti : P.underlying ti = some (.int .i64)) (cb : P.cellsOf tb = 1) (ci : P.cellsOf ti = 1)
    (hval : Value.okWide P W r b0 u v) (h : DataW.Trod enc P W 0 (fun _ => true) true u v d ps) (hlt : ∀ x ∈ ps, x.block < W.heap.size) :
    ∃ (A R K : Option Addr) (n c m dd p q : Nat) (hp : Hp) (l : List Bool) (i : Int), v = .agg #[.slice A n c, .slice R m dd, .slice K p q, .int .i64 i] ∧ n ≤ 9223372036854775807 ∧ m ≤ 9223372036854775807 ∧ p ≤ 9223372036854775807 ∧ HS W W.heap.size A n R m hp ∧ OS W W.heap.size K p l ∧ ∀ cl ∈ hp.cs, cl.r.length ≤ 9223372036854775807 := by
  obtain ⟨cs, rfl, hsz⟩ := okWide_struct hu hval
  rw [cu] at hsz
  obtain ⟨fuel, hf⟩ := h
  obtain ⟨ys, k, _, hys, _, hyl, hfd⟩ := DataW.trod_struct hu hf
  obtain ⟨l⟩ := cs
  match l, hsz with
  | [v0, v1, v2, v3], _ =>
    have g0 := hfd 0 k0 rfl
    have g1 := hfd 1 k1 rfl
    have g2 := hfd 2 k2 rfl
    rw [y0, x0, ct] at g0
    rw [y1, x1, ctm] at g1
    rw [y2, x2, ci] at g2
    rw [List.getElem?_eq_getElem (by rw [hyl]; simp)] at g0 g1 g2
    simp at g0 g1 g2
    have hpl : ∀ (i : Nat) (hi : i < ys.length), ∀ y ∈ (ys[i]).2, y.block < W.heap.size := fun i hi y hy => by
      apply hlt
      have := congrArg Prod.snd hys
      simp only [] at this
      rw [this, List.mem_flatMap]
      exact ⟨_, List.getElem_mem _, hy⟩
    obtain ⟨A, R, n, c, m, dd, hp, rfl, rfl, hn, hm, hs, hb⟩ := heap_trod hh s0 s1 p0 p1 ctc ctn htc htn he ce t0 t1 t2 o0 o1 o2 htb hti cb ci g0 (hpl 0 _)
    obtain ⟨K, p, q, xs, rfl, _, hp3, hI⟩ := bools_trod htm htb cb g1 (hpl 1 _)
    obtain ⟨i, e3, _, _⟩ := DataW.trod_int hti g2
    have e4 : [v3] = [Value.int .i64 i] := e3
    injection e4 with e4 _
    subst e4
    exact ⟨A, R, K, n, c, m, dd, p, q, hp, xs, i, rfl, hn, hm, hp3, hs, hI, hb⟩
end

theorem open_lawsLazy {H : Type} {enc : TypeId × Value → H} {W : World} {r : Reach} {base : Nat} {v : Value} {d : DataW H} {ps : List MemPlace} (hval : Value.okWide Try.prog W r base 57 v) (h : DataW.Trod enc Try.prog W 0 (fun _ => true) true 57 v d ps) (hlt : ∀ x ∈ ps, x.block < W.heap.size) :
    ∃ (A R K : Option Addr) (n c m dd p q : Nat) (hp : Hp) (l : List Bool) (i : Int), v = .agg #[.slice A n c, .slice R m dd, .slice K p q, .int .i64 i] ∧ n ≤ 9223372036854775807 ∧ m ≤ 9223372036854775807 ∧ p ≤ 9223372036854775807 ∧ HS W W.heap.size A n R m hp ∧ OS W W.heap.size K p l ∧ ∀ cl ∈ hp.cs, cl.r.length ≤ 9223372036854775807 :=
  open_lazy (t := 50) (tc := 48) (tn := 24) (e := 120) (tb := 4) (ti := 3) (tm := 28) Try.underlying57 (by kernel_rfl) rfl rfl rfl rfl rfl rfl (by kernel_rfl) (by kernel_rfl) Try.underlying28 Try.underlying50 rfl rfl rfl rfl (by kernel_rfl) (by kernel_rfl) Try.underlying48 Try.underlying24 Try.underlying120 (by kernel_rfl) rfl rfl rfl rfl rfl rfl Try.underlying4 Try.underlying3 (by kernel_rfl) (by kernel_rfl) hval h hlt
end Go.Proofs.Ytakdjiojahlnmaa
