/- From a walk to a law's row: a law that returns true and leaves all old memory as it was meets its row; how a slice of blocks that came in lies in memory. No conditions. -/
import Derived.Test.YtakdjiojahlnmaaGa
import Derived.ProofKit
import Derived.OpenShut
import Derived.JoinedCond
import Derived.Carry
import Derived.Deep.Slices
namespace Go.Proofs.Ytakdjiojahlnmaa
open Go.ChangeShapes Go.WideShapes Go.ChangeAt Go.RowKit Go.Deep

theorem own : ownKnob Try.prog.godebug = none := by kernel_rfl
theorem laidOut : laidOutB Try.prog = true := by kernel_rfl

section
variable {H : Type} {enc : TypeId × Value → H} {P : Program} {W W' : World}

/-- all arguments read as they did -/
theorem stay_all (hl : laidOutB P = true) (hb : Below W.heap.size W W') : ∀ {ts : List TypeId} {vs : List Value} {ds : List (DataW H)} {p : List MemPlace},
    (∀ t ∈ ts, P.readableRec t = true ∧ t < P.types.size) → DataW.TrodAll enc P W 0 (fun _ => true) true ts vs ds p → (∀ x ∈ p, x.block < W.heap.size) →
    DataW.TrodAll enc P W' 0 (fun b => decide (b < W.heap.size)) true ts vs ds p
  | [], _, _, _, _, h, _ => by
    obtain ⟨rfl, rfl, rfl⟩ := trodAll_nil h
    exact trodAll_mk0
  | t :: ts, _, _, _, hts, h, hlt => by
    obtain ⟨v, vs, d, ds, p, q, rfl, rfl, rfl, h0, hr⟩ := trodAll_cons h
    have ht := hts t (by simp)
    exact trodAll_cons_mk (Below.trod hl ht.1 ht.2 h0 hb (fun x hx => hlt x (by simp [hx])))
      (stay_all hl hb (fun t' h' => hts t' (by simp [h'])) hr (fun x hx => hlt x (by simp [hx])))

/-- a law that returned true and left old memory alone has met its row -/
theorem law_post {f : Func} {s : ChangeSpec} {args : Array Value} {ds gs : List (DataW H)} {before : List MemPlace} {tb : TypeId}
    (hl : laidOutB P = true) (hts : ∀ t ∈ f.params.toList, P.readableRec t = true ∧ t < P.types.size) (hrt : f.resultTypes = #[tb]) (htb : P.underlying tb = some .bool)
    (hvars : s.vars = []) (hfn : s.fn H ds = { results := [.lit (.bool true)], args := ds })
    (hW : DataW.Whole enc P f.params.toList s.vars false W args.toList ds gs before) (hb : Below W.heap.size W W') :
    s.post enc P f false true false false W args (.bool true) W' := by
  have hW' := hW
  obtain ⟨p, q, hA, hV, rfl, hfz, hnd⟩ := hW
  rw [hvars] at hV
  obtain ⟨rfl, rfl⟩ := trodVars_none hV
  have hlt : ∀ x ∈ p, x.block < W.heap.size := fun x hx => by simpa using hW'.lt x (by simp [hx])
  refine ⟨ds, [], p ++ [], [], p, [], hW', ?_, ?_, ?_, ?_, fun h => by cases h⟩
  · rw [List.append_nil, hfn, hrt]
    exact trodAll_mk1 (shut_bool htb true)
  · rw [List.append_nil, hfn]
    exact stay_all hl hb hts hA hlt
  · rw [List.append_nil, hfn, hvars]
    rfl
  · exact hb.frame _

/-- an address at which a cell lies has no spot -/
theorem addr_of_cell {w : World} {a : Addr} {v : Value} (h : w.cell? a = some v) : a = ⟨a.block, a.off, none⟩ := by
  obtain ⟨b, o, sp⟩ := a
  cases sp with
  | none => rfl
  | some s =>
    unfold World.cell? at h
    simp only [] at h
    split at h <;> simp at h

theorem add_none (b o n : Nat) : (⟨b, o, none⟩ : Addr).add n = ⟨b, o + n, none⟩ := by
  unfold Addr.add
  split
  · next h => subst h; rfl
  · rfl

theorem i64_of_wf {n : Int} (h : (Lit.int .i64 n).wf = true) : I64 n := by
  simpa [Lit.wf, IntKind.min, IntKind.max, IntKind.signed, IntKind.bits, I64] using h

/-- a slice of structs 'int, int, bool' that came in -/
theorem open_blocks {t e ti tb : TypeId} {f0 f1 f2 : Field} {r : Reach} {b0 : Nat} {v : Value} {d : DataW H} {ps : List MemPlace}
    (ht : P.underlying t = some (.slice e)) (he : P.underlying e = some (.struct #[f0, f1, f2])) (ce : P.cellsOf e = 3)
    (t0 : f0.type = ti) (t1 : f1.type = ti) (t2 : f2.type = tb) (o0 : f0.offset = 0) (o1 : f1.offset = 1) (o2 : f2.offset = 2)
    (hti : P.underlying ti = some (.int .i64)) (htb : P.underlying tb = some .bool) (ci : P.cellsOf ti = 1) (cb : P.cellsOf tb = 1)
    (hval : Value.okWide P W r b0 t v) (h : DataW.Trod enc P W 0 (fun _ => true) true t v d ps) (hlt : ∀ x ∈ ps, x.block < W.heap.size) :
    ∃ (A : Option Addr) (n c : Nat) (xs : List Bl), v = .slice A n c ∧ n ≤ 9223372036854775807 ∧ BS W W.heap.size A n xs := by
  obtain ⟨A, n, c, rfl⟩ := okWide_slice ht hval
  obtain ⟨fuel, hf⟩ := h
  rcases open_slice ht hf with ⟨h0, _⟩ | ⟨a, len, cap, m, n', D, Pl, hcs, hb, hl, hm, hmm, hx, hi⟩
  · simp [Value.cells] at h0
    obtain ⟨rfl, rfl, rfl⟩ := h0
    exact ⟨none, 0, 0, [], rfl, by omega, rfl, fun k x hx => by simp at hx, fun h => absurd h (by omega)⟩
  · simp [Value.cells] at hcs
    obtain ⟨rfl, rfl, rfl⟩ := hcs
    simp only [if_true] at hmm
    subst hmm
    have each : ∀ i, i < n → ∃ x : Bl, I64 x.s ∧ I64 x.z ∧ W.cell? (a.add (i * 3)) = some (.int .i64 x.s) ∧ W.cell? (a.add (i * 3 + 1)) = some (.int .i64 x.z) ∧ W.cell? (a.add (i * 3 + 2)) = some (.bool x.u) := by
      intro i hin
      obtain ⟨cs', h1, h2⟩ := hi i (by omega)
      rw [ce] at h1
      obtain ⟨_, hlen, hcell⟩ := World.cells?_some h1
      obtain ⟨ys, k, _, _, _, hyl, hfd⟩ := DataW.trod_struct he h2
      match cs', hlen with
      | [v0, v1, v2], _ =>
        have g0 := hfd 0 f0 rfl
        have g1 := hfd 1 f1 rfl
        have g2 := hfd 2 f2 rfl
        rw [t0, o0, ci] at g0
        rw [t1, o1, ci] at g1
        rw [t2, o2, cb] at g2
        rw [List.getElem?_eq_getElem (by rw [hyl]; simp)] at g0 g1 g2
        obtain ⟨n0, e0, _, w0⟩ := DataW.trod_int hti g0
        obtain ⟨n1, e1, _, w1⟩ := DataW.trod_int hti g1
        obtain ⟨u, e2, _⟩ := DataW.trod_bool htb g2
        simp at e0 e1 e2
        subst e0 e1 e2
        have q0 := hcell 0 (by omega)
        have q1 := hcell 1 (by omega)
        have q2 := hcell 2 (by omega)
        rw [add_add] at q0 q1 q2
        exact ⟨⟨n0, n1, u⟩, i64_of_wf w0, i64_of_wf w1, by simpa using q0, by simpa using q1, by simpa using q2⟩
    obtain ⟨F, hF⟩ := choose_lt each
    refine ⟨some a, n, _, (List.range n).map F, rfl, by unfold maxLen at hm; omega, by simp, ?_, ?_⟩
    · intro k x hx
      simp only [List.getElem?_map] at hx
      rcases Nat.lt_or_ge k n with hk | hk
      · rw [List.getElem?_range hk] at hx
        simp at hx
        subst hx
        exact ⟨(hF k hk).1, (hF k hk).2.1⟩
      · rw [List.getElem?_eq_none (by simpa using hk)] at hx
        simp at hx
    · intro hn
      have h0 := (hF 0 hn).2.2.1
      simp [Addr.add] at h0
      have ha := addr_of_cell h0
      have hblt : a.block < W.heap.size := by
        apply hlt (.cell a.block a.off)
        have hps := congrArg Prod.snd hx
        simp only [] at hps
        rw [hps, ce]
        apply List.mem_append_left
        rw [ha]
        simp [MemPlace.row]
        omega
      refine ⟨a.block, a.off, by rw [← ha], hblt, fun k x hx => ?_⟩
      rcases Nat.lt_or_ge k n with hk | hk
      · simp only [List.getElem?_map] at hx
        rw [List.getElem?_range hk] at hx
        simp at hx
        subst hx
        have q := hF k hk
        rw [ha, add_none, add_none, add_none] at q
        exact ⟨q.2.2.1, by rw [Nat.add_assoc]; exact q.2.2.2.1, by rw [Nat.add_assoc]; exact q.2.2.2.2⟩
      · rw [List.getElem?_eq_none (by simpa using hk)] at hx
        cases hx
end
end Go.Proofs.Ytakdjiojahlnmaa
