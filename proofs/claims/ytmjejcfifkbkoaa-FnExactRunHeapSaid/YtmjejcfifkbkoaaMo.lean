/- How instructions of the laws that came in lie in memory. No conditions. -/
import Derived.Test.YtmjejcfifkbkoaaGc
import Derived.Test.YtmjejcfifkbkoaaPost
namespace Go.Proofs.Ytmjejcfifkbkoaa
open Go.ChangeShapes Go.WideShapes Go.ChangeAt Go.RowKit Go.Deep
set_option maxRecDepth 100000
section
variable {H : Type} {enc : TypeId × Value → H} {P : Program} {W : World}
theorem open_four {t ti : TypeId} {f0 f1 f2 f3 : Field} {r : Reach} {b0 : Nat} {v : Value} {d : DataW H} {ps : List MemPlace}
    (he : P.underlying t = some (.struct #[f0, f1, f2, f3])) (ce : P.cellsOf t = 4)
    (t0 : f0.type = ti) (t1 : f1.type = ti) (t2 : f2.type = ti) (t3 : f3.type = ti) (o0 : f0.offset = 0) (o1 : f1.offset = 1) (o2 : f2.offset = 2) (o3 : f3.offset = 3)
    (hti : P.underlying ti = some (.int .i64)) (ci : P.cellsOf ti = 1)
    (hval : Value.okWide P W r b0 t v) (h : DataW.Trod enc P W 0 (fun _ => true) true t v d ps) :
    ∃ o : Cm, v = cmV o := by
  obtain ⟨cs, rfl, hsz⟩ := okWide_struct he hval
  rw [ce] at hsz
  obtain ⟨fuel, hf⟩ := h
  obtain ⟨ys, k, _, _, _, hyl, hfd⟩ := DataW.trod_struct he hf
  obtain ⟨l⟩ := cs
  match l, hsz with
  | [v0, v1, v2, v3], _ =>
    have g0 := hfd 0 f0 rfl
    have g1 := hfd 1 f1 rfl
    have g2 := hfd 2 f2 rfl
    have g3 := hfd 3 f3 rfl
    rw [t0, o0, ci] at g0
    rw [t1, o1, ci] at g1
    rw [t2, o2, ci] at g2
    rw [t3, o3, ci] at g3
    rw [List.getElem?_eq_getElem (by rw [hyl]; simp)] at g0 g1 g2 g3
    obtain ⟨n0, e0, _, _⟩ := DataW.trod_int hti g0
    obtain ⟨n1, e1, _, _⟩ := DataW.trod_int hti g1
    obtain ⟨n2, e2, _, _⟩ := DataW.trod_int hti g2
    obtain ⟨n3, e3, _, _⟩ := DataW.trod_int hti g3
    simp [Value.cells] at e0 e1 e2 e3
    subst e0 e1 e2 e3
    exact ⟨⟨n0, n1, n2, n3⟩, rfl⟩
/-- a slice of structs of four numbers that came in -/
theorem open_fours {t e ti : TypeId} {f0 f1 f2 f3 : Field} {r : Reach} {b0 : Nat} {v : Value} {d : DataW H} {ps : List MemPlace}
    (ht : P.underlying t = some (.slice e)) (he : P.underlying e = some (.struct #[f0, f1, f2, f3])) (ce : P.cellsOf e = 4)
    (t0 : f0.type = ti) (t1 : f1.type = ti) (t2 : f2.type = ti) (t3 : f3.type = ti) (o0 : f0.offset = 0) (o1 : f1.offset = 1) (o2 : f2.offset = 2) (o3 : f3.offset = 3)
    (hti : P.underlying ti = some (.int .i64)) (ci : P.cellsOf ti = 1)
    (hval : Value.okWide P W r b0 t v) (h : DataW.Trod enc P W 0 (fun _ => true) true t v d ps) (hlt : ∀ x ∈ ps, x.block < W.heap.size) :
    ∃ (A : Option Addr) (n c : Nat) (l : List Cm), v = .slice A n c ∧ n ≤ 9223372036854775807 ∧ MS W W.heap.size A n l := by
  obtain ⟨A, n, c, rfl⟩ := okWide_slice ht hval
  obtain ⟨fuel, hf⟩ := h
  rcases open_slice ht hf with ⟨h0, _⟩ | ⟨a, len, cap, m, n', D, Pl, hcs, hb, hl, hm, hmm, hx, hi⟩
  · simp [Value.cells] at h0
    obtain ⟨rfl, rfl, rfl⟩ := h0
    exact ⟨none, 0, 0, [], rfl, by omega, MS.none_ _ _ _⟩
  · simp [Value.cells] at hcs
    obtain ⟨rfl, rfl, rfl⟩ := hcs
    simp only [if_true] at hmm
    subst hmm
    have each : ∀ i, i < n → ∃ x : Cm, W.cell? (a.add (i * 4)) = some (.int .i64 x.op) ∧ W.cell? (a.add (i * 4 + 1)) = some (.int .i64 x.a) ∧ W.cell? (a.add (i * 4 + 2)) = some (.int .i64 x.b) ∧ W.cell? (a.add (i * 4 + 3)) = some (.int .i64 x.c) := by
      intro i hin
      obtain ⟨cs', h1, h2⟩ := hi i (by omega)
      rw [ce] at h1
      obtain ⟨_, hlen, hcell⟩ := World.cells?_some h1
      obtain ⟨ys, k, _, _, _, hyl, hfd⟩ := DataW.trod_struct he h2
      match cs', hlen with
      | [v0, v1, v2, v3], _ =>
        have g0 := hfd 0 f0 rfl
        have g1 := hfd 1 f1 rfl
        have g2 := hfd 2 f2 rfl
        have g3 := hfd 3 f3 rfl
        rw [t0, o0, ci] at g0
        rw [t1, o1, ci] at g1
        rw [t2, o2, ci] at g2
        rw [t3, o3, ci] at g3
        rw [List.getElem?_eq_getElem (by rw [hyl]; simp)] at g0 g1 g2 g3
        obtain ⟨n0, e0, _, _⟩ := DataW.trod_int hti g0
        obtain ⟨n1, e1, _, _⟩ := DataW.trod_int hti g1
        obtain ⟨n2, e2, _, _⟩ := DataW.trod_int hti g2
        obtain ⟨n3, e3, _, _⟩ := DataW.trod_int hti g3
        simp at e0 e1 e2 e3
        subst e0 e1 e2 e3
        have q0 := hcell 0 (by omega)
        have q1 := hcell 1 (by omega)
        have q2 := hcell 2 (by omega)
        have q3 := hcell 3 (by omega)
        rw [add_add] at q0 q1 q2 q3
        exact ⟨⟨n0, n1, n2, n3⟩, by simpa using q0, by simpa using q1, by simpa using q2, by simpa using q3⟩
    obtain ⟨F, hF⟩ := choose_lt each
    refine ⟨some a, n, _, (List.range n).map F, rfl, by unfold maxLen at hm; omega, by simp, fun hn => ?_⟩
    have h0 := (hF 0 hn).1
    simp [Addr.add] at h0
    have ha := addr_of_cell h0
    have hblt : a.block < W.heap.size := by
      apply hlt (.cell a.block a.off)
      have hps := congrArg Prod.snd hx
      simp only [] at hps
      rw [hps, ce]
      apply List.mem_append_left
      rw [ha]
      simp [MemPlace.row]
      omega
    refine ⟨a.block, a.off, by rw [← ha], hblt, fun j u hj => ?_⟩
    have hjl := (List.getElem?_eq_some_iff.1 hj).1
    rw [flatM_length] at hjl
    simp only [List.length_map, List.length_range] at hjl
    have hk : j / 4 < n := by omega
    have hx : ((List.range n).map F)[j / 4]? = some (F (j / 4)) := by
      rw [List.getElem?_map, List.getElem?_range hk]
      rfl
    obtain ⟨f0, f1, f2, f3⟩ := flatM_at _ _ _ hx
    obtain ⟨q0, q1, q2, q3⟩ := hF (j / 4) hk
    rw [ha, add_none] at q0 q1 q2 q3
    rcases (show j = j / 4 * 4 ∨ j = j / 4 * 4 + 1 ∨ j = j / 4 * 4 + 2 ∨ j = j / 4 * 4 + 3 by omega) with e | e | e | e
    · rw [← e] at f0 q0
      rw [f0] at hj
      rw [← Option.some.inj hj]
      exact q0
    · rw [← e] at f1 q1
      rw [f1] at hj
      rw [← Option.some.inj hj]
      exact q1
    · rw [← e] at f2 q2
      rw [f2] at hj
      rw [← Option.some.inj hj]
      exact q2
    · rw [← e] at f3 q3
      rw [f3] at hj
      rw [← Option.some.inj hj]
      exact q3
end
theorem open_lawsCommand {H : Type} {enc : TypeId × Value → H} {W : World} {r : Reach} {base : Nat} {v : Value} {d : DataW H} {ps : List MemPlace} (hval : Value.okWide Try.prog W r base 133 v) (h : DataW.Trod enc Try.prog W 0 (fun _ => true) true 133 v d ps) :
    ∃ o : Cm, v = cmV o :=
  open_four (ti := 3) Try.underlying133 (by kernel_rfl) rfl rfl rfl rfl rfl rfl rfl rfl Try.underlying3 (by kernel_rfl) hval h
theorem open_lawsCommands {H : Type} {enc : TypeId × Value → H} {W : World} {r : Reach} {base : Nat} {v : Value} {d : DataW H} {ps : List MemPlace} (hval : Value.okWide Try.prog W r base 72 v) (h : DataW.Trod enc Try.prog W 0 (fun _ => true) true 72 v d ps) (hlt : ∀ x ∈ ps, x.block < W.heap.size) :
    ∃ (A : Option Addr) (n c : Nat) (l : List Cm), v = .slice A n c ∧ n ≤ 9223372036854775807 ∧ MS W W.heap.size A n l :=
  open_fours (e := 133) (ti := 3) Try.underlying72 Try.underlying133 (by kernel_rfl) rfl rfl rfl rfl rfl rfl rfl rfl Try.underlying3 (by kernel_rfl) hval h hlt
end Go.Proofs.Ytmjejcfifkbkoaa
