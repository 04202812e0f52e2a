/- For every list of bytes the law FnReachable returns true (P44), over the program's contracts. No conditions. -/
import Derived.Test.YtmjejcfifkbkoaaKo
import Derived.Test.YtmjejcfifkbkoaaHs
namespace Go.Proofs.Ytmjejcfifkbkoaa
open Go.RowKit
set_option maxRecDepth 100000

namespace Hps
theorem reach_root {h : Hp} (hv : validH h = true) {k : Nat} {y : Nat} (hk : h.rt[k]? = some (y : Int)) : (reachH h)[y]? = some true := by
  obtain ⟨n, e, hlt, _⟩ := okRef_nat (valid_root hv hk) (by omega)
  have : y = n := by omega
  subst this
  rw [reachH, if_pos hv, reachL_true hlt]
  exact .root (List.mem_of_getElem? hk)
theorem reach_ref {h : Hp} (hv : validH h = true) {k j y : Nat} {c : Cl} (hm : (reachH h)[k]? = some true) (hc : h.cs[k]? = some c) (hj : c.r[j]? = some (y : Int)) : (reachH h)[y]? = some true := by
  obtain ⟨n, e, hlt, _⟩ := okRef_nat (valid_ref hv hc hj) (by omega)
  have : y = n := by omega
  subst this
  rw [reachH, if_pos hv] at hm ⊢
  rw [reachL_true hlt]
  rw [reachL_true (List.getElem?_eq_some_iff.1 hc).1] at hm
  exact .step hm hc (List.mem_of_getElem? hj)
theorem reach_used {h : Hp} (hv : validH h = true) {k : Nat} {c : Cl} (hm : (reachH h)[k]? = some true) (hc : h.cs[k]? = some c) : c.u = true := by
  rw [reachH, if_pos hv, reachL_true (List.getElem?_eq_some_iff.1 hc).1] at hm
  have := hm.live hv
  simpa [usedAt, hc] using this
end Hps

end Go.Proofs.Ytmjejcfifkbkoaa
