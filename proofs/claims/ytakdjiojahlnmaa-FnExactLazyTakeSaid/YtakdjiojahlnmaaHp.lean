/- How a heap that came in lies in memory. No conditions. -/
import Derived.Test.YtakdjiojahlnmaaGb
import Derived.Test.YtakdjiojahlnmaaPost
namespace Go.Proofs.Ytakdjiojahlnmaa
open Go.ChangeShapes Go.WideShapes Go.ChangeAt Go.RowKit Go.Deep
section
variable {H : Type} {enc : TypeId × Value → H} {P : Program} {W : World}

/-- a slice of numbers -/
theorem nums_trod {t e : TypeId} {fuel : Nat} {v : Value} {x : DataW H × List MemPlace} (ht : P.underlying t = some (.slice e)) (he : P.underlying e = some (.int .i64)) (ce : P.cellsOf e = 1)
    (hf : DataW.trod enc P W 0 (fun _ => true) true fuel t [v] = some x) (hlt : ∀ y ∈ x.2, y.block < W.heap.size) :
    ∃ (A : Option Addr) (n c : Nat) (xs : List Int), v = .slice A n c ∧ n ≤ c ∧ n ≤ 9223372036854775807 ∧ IS W W.heap.size A n xs ∧ AllN xs := by
  rcases open_ints ht he ce hf with ⟨h0, _⟩ | ⟨a, len, cap, zs, hcs, hb, hl, hm, hz, hx, hi, hwf⟩
  · injection h0 with h0
    subst h0
    exact ⟨none, 0, 0, [], rfl, by omega, by omega, IS.none_ _ _ _, fun k v hv => by simp at hv⟩
  · injection hcs with hcs
    subst hcs
    simp only [if_true] at hz
    refine ⟨some a, len, cap, zs.take len, rfl, hl, by unfold maxLen at hm; omega, ⟨by rw [List.length_take]; omega, fun hn => ?_⟩, fun k v hv => i64_of_wf (hwf v (List.mem_of_mem_take (List.mem_of_getElem? hv)))⟩
    have h0 := hi 0 (by omega)
    simp [Addr.add] at h0
    have ha := addr_of_cell h0
    have hblt : a.block < W.heap.size := by
      apply hlt (.cell a.block a.off)
      rw [hx, hz, ha]
      simp [MemPlace.row]
      omega
    refine ⟨a.block, a.off, by rw [← ha], hblt, fun k y hk => ?_⟩
    have hkn := (List.getElem?_eq_some_iff.1 hk).1
    rw [List.length_take] at hkn
    rw [List.getElem?_take_of_lt (by omega)] at hk
    have hc := hi k (by omega)
    rw [ha, add_none, List.getD_eq_getElem?_getD, hk] at hc
    exact hc

/-- a slice of cells -/
theorem cells_trod {t e tb ti tr : TypeId} {f0 f1 f2 : Field} {fuel : Nat} {v : Value} {x : DataW H × List MemPlace} (ht : P.underlying t = some (.slice e)) (he : P.underlying e = some (.struct #[f0, f1, f2])) (ce : P.cellsOf e = 3)
    (t0 : f0.type = tb) (t1 : f1.type = ti) (t2 : f2.type = tr) (o0 : f0.offset = 0) (o1 : f1.offset = 1) (o2 : f2.offset = 2)
    (htb : P.underlying tb = some .bool) (hti : P.underlying ti = some (.int .i64)) (htr : P.underlying tr = some (.slice ti)) (cb : P.cellsOf tb = 1) (ci : P.cellsOf ti = 1) (cr : P.cellsOf tr = 1)
    (hf : DataW.trod enc P W 0 (fun _ => true) true fuel t [v] = some x) (hlt : ∀ y ∈ x.2, y.block < W.heap.size) :
    ∃ (A : Option Addr) (n c : Nat) (cs : List Cl), v = .slice A n c ∧ n ≤ c ∧ n ≤ 9223372036854775807 ∧ CS W W.heap.size A n cs ∧ ∀ cl ∈ cs, I64 cl.d ∧ AllN cl.r ∧ cl.r.length ≤ 9223372036854775807 := by
  rcases open_slice ht hf with ⟨h0, _⟩ | ⟨a, len, cap, m, n', D, Pl, hcs, hb, hl, hm, hmm, hx, hi⟩
  · injection h0 with h0
    subst h0
    exact ⟨none, 0, 0, [], rfl, by omega, by omega, CS.none_ _ _ _, fun cl hcl => by simp at hcl⟩
  · injection hcs with hcs
    subst hcs
    simp only [if_true] at hmm
    subst hmm
    have each : ∀ i, i < len → ∃ q : Cl × Option Addr × Nat × Nat, I64 q.1.d ∧ AllN q.1.r ∧ q.2.2.1 ≤ 9223372036854775807 ∧ W.cell? (a.add (i * 3)) = some (.bool q.1.u) ∧ W.cell? (a.add (i * 3 + 1)) = some (.int .i64 q.1.d) ∧ W.cell? (a.add (i * 3 + 2)) = some (.slice q.2.1 q.2.2.1 q.2.2.2) ∧ q.2.2.1 ≤ q.2.2.2 ∧ IS W W.heap.size q.2.1 q.2.2.1 q.1.r := by
      intro i hin
      obtain ⟨cs', h1, h2⟩ := hi i (by omega)
      rw [ce] at h1
      obtain ⟨_, hlen, hcell⟩ := World.cells?_some h1
      obtain ⟨ys, k, _, hys, _, hyl, hfd⟩ := DataW.trod_struct he h2
      match cs', hlen with
      | [v0, v1, v2], _ =>
        have g0 := hfd 0 f0 rfl
        have g1 := hfd 1 f1 rfl
        have g2 := hfd 2 f2 rfl
        rw [t0, o0, cb] at g0
        rw [t1, o1, ci] at g1
        rw [t2, o2, cr] at g2
        rw [List.getElem?_eq_getElem (by rw [hyl]; simp)] at g0 g1 g2
        obtain ⟨u, e0, _⟩ := DataW.trod_bool htb g0
        obtain ⟨n1, e1, _, w1⟩ := DataW.trod_int hti g1
        simp at e0 e1
        subst e0 e1
        have hlt2 : ∀ y ∈ (ys[2]'(by rw [hyl]; simp)).2, y.block < W.heap.size := fun y hy => by
          apply hlt
          rw [hx]
          apply List.mem_append_right
          rw [List.mem_flatMap]
          refine ⟨i, by simp; omega, ?_⟩
          have := congrArg Prod.snd hys
          simp only [] at this
          rw [this, List.mem_flatMap]
          exact ⟨_, List.getElem_mem _, hy⟩
        obtain ⟨A2, n2, c2, xs2, e2, hnc, hn2, hi2, ha2⟩ := nums_trod htr hti ci g2 hlt2
        subst e2
        have q0 := hcell 0 (by omega)
        have q1 := hcell 1 (by omega)
        have q2 := hcell 2 (by omega)
        rw [add_add] at q0 q1 q2
        exact ⟨(⟨u, n1, xs2⟩, A2, n2, c2), i64_of_wf w1, ha2, hn2, by simpa using q0, by simpa using q1, by simpa using q2, hnc, hi2⟩
    obtain ⟨F, hF⟩ := choose_lt each
    refine ⟨some a, len, _, (List.range len).map fun i => (F i).1, rfl, hl, by unfold maxLen at hm; omega, ⟨by simp, fun hn => ?_⟩, fun cl hcl => ?_⟩
    · have h0 := (hF 0 hn).2.2.2.1
      simp [Addr.add] at h0
      have ha := addr_of_cell h0
      have hblt : a.block < W.heap.size := by
        apply hlt (.cell a.block a.off)
        rw [hx, ce]
        apply List.mem_append_left
        rw [ha]
        simp [MemPlace.row]
        omega
      refine ⟨a.block, a.off, by rw [← ha], hblt, fun k c hk => ?_⟩
      have hkn : k < len := by
        have := (List.getElem?_eq_some_iff.1 hk).1
        simpa using this
      simp only [List.getElem?_map] at hk
      rw [List.getElem?_range hkn] at hk
      simp at hk
      subst hk
      obtain ⟨_, _, _, q1, q2, q3, q4, q5⟩ := hF k hkn
      rw [ha, add_none] at q1 q2 q3
      exact ⟨q1, by rw [Nat.add_assoc]; exact q2, _, _, _, by rw [Nat.add_assoc]; exact q3, q4, q5⟩
    · obtain ⟨i, hi', rfl⟩ := List.mem_map.1 hcl
      obtain ⟨q1, q2, q3, _, _, _, _, q5⟩ := hF i (by simpa using hi')
      exact ⟨q1, q2, by rw [q5.1]; exact q3⟩

/-- a heap -/
theorem open_heap {t tc tn e tb ti : TypeId} {h0 h1 f0 f1 f2 : Field} {r : Reach} {b0 : Nat} {v : Value} {d : DataW H} {ps : List MemPlace}
    (hh : P.underlying t = some (.struct #[h0, h1])) (ch : P.cellsOf t = 2) (s0 : h0.type = tc) (s1 : h1.type = tn) (p0 : h0.offset = 0) (p1 : h1.offset = 1) (ctc : P.cellsOf tc = 1) (ctn : P.cellsOf tn = 1)
    (htc : P.underlying tc = some (.slice e)) (htn : P.underlying tn = some (.slice ti)) (he : P.underlying e = some (.struct #[f0, f1, f2])) (ce : P.cellsOf e = 3)
    (t0 : f0.type = tb) (t1 : f1.type = ti) (t2 : f2.type = tn) (o0 : f0.offset = 0) (o1 : f1.offset = 1) (o2 : f2.offset = 2)
    (htb : P.underlying tb = some .bool) (hti : P.underlying ti = some (.int .i64)) (cb : P.cellsOf tb = 1) (ci : P.cellsOf ti = 1)
    (hval : Value.okWide P W r b0 t v) (h : DataW.Trod enc P W 0 (fun _ => true) true t v d ps) (hlt : ∀ x ∈ ps, x.block < W.heap.size) :
    ∃ (A R : Option Addr) (n c m dd : Nat) (hp : Hp), v = .agg #[.slice A n c, .slice R m dd] ∧ n ≤ 9223372036854775807 ∧ m ≤ 9223372036854775807 ∧ HS W W.heap.size A n R m hp ∧ AllN hp.rt ∧ ∀ cl ∈ hp.cs, I64 cl.d ∧ AllN cl.r ∧ cl.r.length ≤ 9223372036854775807 := by
  obtain ⟨cs, rfl, hsz⟩ := okWide_struct hh hval
  rw [ch] at hsz
  obtain ⟨fuel, hf⟩ := h
  obtain ⟨ys, k, _, hys, _, hyl, hfd⟩ := DataW.trod_struct hh hf
  obtain ⟨l⟩ := cs
  match l, hsz with
  | [v0, v1], _ =>
    have g0 := hfd 0 h0 rfl
    have g1 := hfd 1 h1 rfl
    rw [s0, p0, ctc] at g0
    rw [s1, p1, ctn] at g1
    rw [List.getElem?_eq_getElem (by rw [hyl]; simp)] at g0 g1
    simp [Value.cells] at g0 g1
    have hpl : ∀ (i : Nat) (hi : i < ys.length), ∀ y ∈ (ys[i]).2, y.block < W.heap.size := fun i hi y hy => by
      apply hlt
      have := congrArg Prod.snd hys
      simp only [] at this
      rw [this, List.mem_flatMap]
      exact ⟨_, List.getElem_mem _, hy⟩
    obtain ⟨A, n, c, cs, e0, _, hn, hC, ha⟩ := cells_trod htc he ce t0 t1 t2 o0 o1 o2 htb hti htn cb ci ctn g0 (hpl 0 _)
    obtain ⟨R, m, dd, xs, e1, _, hm, hI, hx⟩ := nums_trod htn hti ci g1 (hpl 1 _)
    subst e0 e1
    exact ⟨A, R, n, c, m, dd, ⟨cs, xs⟩, rfl, hn, hm, ⟨hC, hI⟩, hx, ha⟩
end
end Go.Proofs.Ytakdjiojahlnmaa
