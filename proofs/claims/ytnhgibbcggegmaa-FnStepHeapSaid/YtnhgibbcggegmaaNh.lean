/- For every list of bytes the laws FnNewLives (P118) and FnDropLess (P119) return true, over the program's contracts. No conditions. -/
import Derived.Test.YtnhgibbcggegmaaNb
import Derived.Test.YtnhgibbcggegmaaNd
import Derived.Test.YtnhgibbcggegmaaKw
import Derived.Test.YtnhgibbcggegmaaKp
import Derived.Test.YtnhgibbcggegmaaGa
import Derived.Deep.Cut
import Derived.BigQuiet
namespace Go.Proofs.Ytnhgibbcggegmaa
open Go.RowKit
set_option maxRecDepth 100000

theorem tiny_stepH (h : Hp) (o : Cm) : Tiny (Hps.stepH h o).1 := by
  cases hv : (Hps.validH h && Hps.okCm o)
  · rw [Hps.stepH, if_neg (by rw [hv]; decide)]
    exact tiny_zero
  · rw [Bool.and_eq_true] at hv
    exact tiny_valid (Hps.stepH_valid hv.1 hv.2)
namespace Hps
/-- a step that is taken -/
theorem step_taken {h : Hp} {o : Cm} (hd : (stepH h o).2 = true) : validH h = true ∧ okCm o = true ∧ canH h o = true ∧ (stepH h o).1 = doH h o h.cs.length ∧ validH (stepH h o).1 = true := by
  have hv : (validH h && okCm o) = true := by
    cases hv : (validH h && okCm o)
    · rw [stepH, if_neg (by rw [hv]; decide)] at hd
      cases hd
    · rfl
  have hn : (!canH h o || (decide (o.op = 1) && decide (h.cs.length = 40))) = false := by
    cases hn : (!canH h o || (decide (o.op = 1) && decide (h.cs.length = 40)))
    · rfl
    · rw [stepH, if_pos hv, if_pos hn] at hd
      cases hd
  have he : (stepH h o).1 = doH h o h.cs.length := by rw [stepH, if_pos hv, if_neg (by rw [hn]; decide)]
  have hc : canH h o = true := by
    rw [Bool.or_eq_false_iff] at hn
    simpa using hn.1
  rw [Bool.and_eq_true] at hv
  exact ⟨hv.1, hv.2, hc, he, stepH_valid hv.1 hv.2⟩
/-- what OpNew leaves -/
theorem new_taken {h : Hp} {o : Cm} (hd : (stepH h o).2 = true) (h1 : o.op = 1) : ∃ a : Nat, o.a = a ∧ a < 4 ∧ (stepH h o).1.rt[a]? = some (h.cs.length : Int) ∧ (stepH h o).1.cs[h.cs.length]? = some (newCl o) ∧ (reachH (stepH h o).1)[h.cs.length]? = some true ∧ (stepH h o).1.cs.length = h.cs.length + 1 ∧ (stepH h o).1.rt.length = 4 ∧ ((newCl o).r.length : Int) = o.b := by
  obtain ⟨hv, ho, hc, he, hw⟩ := step_taken hd
  have hq := (okCm_new h1).1 ho
  have e : (stepH h o).1 = ⟨h.cs ++ [newCl o], h.rt.set o.a.toNat h.cs.length⟩ := by rw [he, doH, if_pos h1, putCl, if_pos rfl]
  have h4 := (valid_iff.1 hv).2.2.1
  refine ⟨o.a.toNat, by omega, by omega, ?_, ?_, ?_, ?_, ?_, ?_⟩
  · rw [e]
    exact List.getElem?_set_self (by rw [h4]; omega)
  · rw [e]
    simp
  · refine reach_root hw (k := o.a.toNat) ?_
    rw [e]
    exact List.getElem?_set_self (by rw [h4]; omega)
  · rw [e]
    simp
  · rw [e]
    simp [h4]
  · simp [newCl]
    omega
end Hps

namespace Hps
theorem rootAt_mem {h : Hp} {i : Int} {k : Nat} (e : rootAt h i = (k : Int)) : (k : Int) ∈ h.rt := by
  unfold rootAt at e
  cases hx : h.rt[i.toNat]? with
  | none =>
    rw [hx] at e
    simp at e
  | some x =>
    rw [hx] at e
    have e : x = (k : Int) := by simpa using e
    rw [← e]
    exact List.mem_of_getElem? hx
theorem refAt_mem {cs : List Cl} {n p : Int} {k : Nat} (e : refAt cs n p = (k : Int)) : ∃ c, cs[n.toNat]? = some c ∧ (k : Int) ∈ c.r := by
  unfold refAt at e
  cases hx : cs[n.toNat]? with
  | none =>
    rw [hx] at e
    simp at e
  | some c =>
    rw [hx] at e
    refine ⟨c, rfl, ?_⟩
    cases hy : c.r[p.toNat]? with
    | none =>
      simp only [hy] at e
      simp at e
    | some y =>
      simp only [hy] at e
      have e : y = (k : Int) := by simpa using e
      rw [← e]
      exact List.mem_of_getElem? hy
/-- a step that makes no cell reaches nothing new -/
theorem step_less {h : Hp} {o : Cm} (hd : (stepH h o).2 = true) (h1 : o.op ≠ 1) : (stepH h o).1.cs.length = h.cs.length ∧ ∀ k : Nat, (reachH (stepH h o).1)[k]? = some true → (reachH h)[k]? = some true := by
  obtain ⟨hv, ho, hc, he, hw⟩ := step_taken hd
  have key : (doH h o h.cs.length).cs.length = h.cs.length ∧ (∀ k : Nat, (k : Int) ∈ (doH h o h.cs.length).rt → Rch h.cs h.rt k) ∧ ∀ (k m : Nat) (c : Cl), Rch h.cs h.rt k → (doH h o h.cs.length).cs[k]? = some c → (m : Int) ∈ c.r → Rch h.cs h.rt m := by
    have same : ∀ (k m : Nat) (c : Cl), Rch h.cs h.rt k → h.cs[k]? = some c → (m : Int) ∈ c.r → Rch h.cs h.rt m := fun k m c a b d => .step a b d
    have hroot : ∀ k : Nat, (k : Int) ∈ h.rt → Rch h.cs h.rt k := fun k hk => .root hk
    unfold doH
    rw [if_neg h1]
    by_cases h2 : o.op = 2
    · rw [if_pos h2]
      refine ⟨rfl, fun k hk => ?_, same⟩
      rcases List.mem_or_eq_of_mem_set hk with hk | hk
      · exact hroot k hk
      · have hp : placeH h.cs (rootAt h o.b) o.c = true := by
          unfold canH at hc
          rw [if_pos h2, Bool.and_eq_true] at hc
          exact hc.2
        have h0 : 0 ≤ rootAt h o.b := by
          unfold placeH at hp
          rw [Bool.and_eq_true, decide_eq_true_eq] at hp
          exact hp.1
        obtain ⟨c, hcc, hm⟩ := refAt_mem hk.symm
        exact .step (.root (rootAt_mem (i := o.b) (k := (rootAt h o.b).toNat) (by omega))) hcc hm
    · rw [if_neg h2]
      by_cases h3 : o.op = 3
      · rw [if_pos h3]
        unfold setRef
        cases hcc : h.cs[(rootAt h o.a).toNat]? with
        | none => exact ⟨rfl, hroot, same⟩
        | some c =>
          refine ⟨by simp, hroot, fun k m c' hk hc' hm => ?_⟩
          simp only at hc'
          rw [List.getElem?_set] at hc'
          split at hc'
          · rename_i ek
            split at hc'
            · have e := Option.some.inj hc'
              rw [← e] at hm
              rcases List.mem_or_eq_of_mem_set hm with hm | hm
              · exact same k m c hk (by rw [← ek]; exact hcc) hm
              · exact hroot m (rootAt_mem hm.symm)
            · cases hc'
          · exact same k m c' hk hc' hm
      · rw [if_neg h3]
        by_cases h4 : o.op = 4
        · rw [if_pos h4]
          refine ⟨rfl, fun k hk => ?_, same⟩
          rcases List.mem_or_eq_of_mem_set hk with hk | hk
          · exact hroot k hk
          · exact hroot k (rootAt_mem hk.symm)
        · rw [if_neg h4]
          by_cases h5 : o.op = 5
          · rw [if_pos h5]
            refine ⟨rfl, fun k hk => ?_, same⟩
            rcases List.mem_or_eq_of_mem_set hk with hk | hk
            · exact hroot k hk
            · omega
          · rw [if_neg h5]
            split
            · unfold setDat
              cases hcc : h.cs[(rootAt h o.a).toNat]? with
              | none => exact ⟨rfl, hroot, same⟩
              | some c =>
                refine ⟨by simp, hroot, fun k m c' hk hc' hm => ?_⟩
                simp only at hc'
                rw [List.getElem?_set] at hc'
                split at hc'
                · rename_i ek
                  split at hc'
                  · have e := Option.some.inj hc'
                    rw [← e] at hm
                    exact same k m c hk (by rw [← ek]; exact hcc) hm
                  · cases hc'
                · exact same k m c' hk hc' hm
            · exact ⟨rfl, hroot, same⟩
  rw [← he] at key
  obtain ⟨k1, k2, k3⟩ := key
  refine ⟨k1, fun k hk => ?_⟩
  have hlt : k < h.cs.length := by
    have := (List.getElem?_eq_some_iff.1 hk).1
    rw [reachH_len hw, k1] at this
    exact this
  rw [reachH, if_pos hw, reachL_true (by rw [k1]; exact hlt)] at hk
  rw [reachH, if_pos hv, reachL_true hlt]
  exact Rch.inside (S := fun k => Rch h.cs h.rt k) k2 k3 hk
end Hps

end Go.Proofs.Ytnhgibbcggegmaa
