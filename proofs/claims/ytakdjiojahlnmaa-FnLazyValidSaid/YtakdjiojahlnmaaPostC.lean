/- How a slice of bytes that came in lies in memory. No conditions. -/
import Derived.Test.YtakdjiojahlnmaaGa
import Derived.Test.YtakdjiojahlnmaaPost
namespace Go.Proofs.Ytakdjiojahlnmaa
open Go.ChangeShapes Go.WideShapes Go.ChangeAt Go.RowKit Go.Deep
section
variable {H : Type} {enc : TypeId × Value → H} {P : Program} {W W' : World}

/-- a slice of bytes that came in -/
theorem open_bytes {t e : TypeId} {r : Reach} {b0 : Nat} {v : Value} {d : DataW H} {ps : List MemPlace} (ht : P.underlying t = some (.slice e)) (he : P.underlying e = some (.int .u8)) (ce : P.cellsOf e = 1)
    (hval : Value.okWide P W r b0 t v) (h : DataW.Trod enc P W 0 (fun _ => true) true t v d ps) (hlt : ∀ x ∈ ps, x.block < W.heap.size) :
    ∃ (A : Option Addr) (n c : Nat), v = .slice A n c ∧ n ≤ c ∧ n ≤ 9223372036854775807 ∧ Bytes W W.heap.size A n := by
  obtain ⟨A, n, c, rfl⟩ := okWide_slice ht hval
  obtain ⟨fuel, hf⟩ := h
  rcases open_ints ht he ce hf with ⟨h0, _⟩ | ⟨a, len, cap, zs, hcs, hb, hl, hm, hz, hx, hi, hwf⟩
  · simp [Value.cells] at h0
    obtain ⟨rfl, rfl, rfl⟩ := h0
    exact ⟨none, 0, 0, rfl, by omega, by omega, fun h => absurd h (by omega)⟩
  · simp [Value.cells] at hcs
    obtain ⟨rfl, rfl, rfl⟩ := hcs
    simp only [if_true] at hz
    refine ⟨some a, n, c, rfl, hl, by unfold maxLen at hm; omega, fun hn => ?_⟩
    have h0 := hi 0 (by omega)
    simp [Addr.add] at h0
    have ha := addr_of_cell h0
    have hblt : a.block < W.heap.size := by
      apply hlt (.cell a.block a.off)
      have hps := congrArg Prod.snd hx
      simp only [] at hps
      rw [hps, hz, ha]
      simp [MemPlace.row]
      omega
    refine ⟨a.block, a.off, by rw [← ha], hblt, fun i hin => ?_⟩
    have hc := hi i (by omega)
    have hmem : zs.getD i 0 ∈ zs := by
      rw [List.getD_eq_getElem?_getD, List.getElem?_eq_getElem (by omega)]
      exact List.getElem_mem _
    have hw := hwf _ hmem
    have hr : 0 ≤ zs.getD i 0 ∧ zs.getD i 0 ≤ 255 := by simpa [Lit.wf, IntKind.min, IntKind.max, IntKind.signed, IntKind.bits] using hw
    rw [ha, add_none] at hc
    exact ⟨_, hr.1, hr.2, hc⟩
end
end Go.Proofs.Ytakdjiojahlnmaa
