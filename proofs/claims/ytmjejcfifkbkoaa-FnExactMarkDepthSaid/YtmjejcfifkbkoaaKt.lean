/- The exact laws of Reachable and RefCounts return true: for every heap. No conditions. -/
import Derived.Test.YtmjejcfifkbkoaaKr
import Derived.Test.YtmjejcfifkbkoaaBo
namespace Go.Proofs.Ytmjejcfifkbkoaa
open Go.RowKit
set_option maxRecDepth 100000
theorem reachH_small (h : Hp) (hz : h.cs.length ≤ 1048576) : (Hps.reachH h).length ≤ 1048576 := by
  unfold Hps.reachH
  split
  · rw [Hps.reachL_len]; exact hz
  · simp
theorem countsH_small (h : Hp) (hz : h.cs.length ≤ 1048576) : (Hps.countsH h).length ≤ 1048576 := by
  unfold Hps.countsH
  split
  · rw [Hps.countsL_eq, Hps.cntN_len]; exact hz
  · simp
theorem markKH_pos (h : Hp) : 0 ≤ markKH 1 h := by
  simp only [markKH, mkK]
  omega

end Go.Proofs.Ytmjejcfifkbkoaa
