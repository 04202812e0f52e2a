/- A struct of two numbers that came in. No conditions. -/
import Derived.Test.YtaacoedmlfcdbaaDoorPost
namespace Go.Proofs.YtaacoedmlfcdbaaDoor
open Go.ChangeShapes Go.WideShapes Go.ChangeAt Go.RowKit Go.Deep
section
variable {H : Type} {enc : TypeId × Value → H} {P : Program} {W : World}
theorem open_two {t ti : TypeId} {f0 f1 : Field} {r : Reach} {b0 : Nat} {v : Value} {d : DataW H} {ps : List MemPlace}
    (he : P.underlying t = some (.struct #[f0, f1])) (ce : P.cellsOf t = 2)
    (t0 : f0.type = ti) (t1 : f1.type = ti) (o0 : f0.offset = 0) (o1 : f1.offset = 1)
    (hti : P.underlying ti = some (.int .i64)) (ci : P.cellsOf ti = 1)
    (hval : Value.okWide P W r b0 t v) (h : DataW.Trod enc P W 0 (fun _ => true) true t v d ps) :
    ∃ a u : Int, v = .agg #[.int .i64 a, .int .i64 u] := by
  obtain ⟨cs, rfl, hsz⟩ := okWide_struct he hval
  rw [ce] at hsz
  obtain ⟨fuel, hf⟩ := h
  obtain ⟨ys, k, _, _, _, hyl, hfd⟩ := DataW.trod_struct he hf
  obtain ⟨l⟩ := cs
  match l, hsz with
  | [v0, v1], _ =>
    have g0 := hfd 0 f0 rfl
    have g1 := hfd 1 f1 rfl
    rw [t0, o0, ci] at g0
    rw [t1, o1, ci] at g1
    rw [List.getElem?_eq_getElem (by rw [hyl]; simp)] at g0 g1
    obtain ⟨n0, e0, _, _⟩ := DataW.trod_int hti g0
    obtain ⟨n1, e1, _, _⟩ := DataW.trod_int hti g1
    simp [Value.cells] at e0 e1
    subst e0 e1
    exact ⟨n0, n1, rfl⟩
end
end Go.Proofs.YtaacoedmlfcdbaaDoor
