/- math/bits.TrailingZeros64 at every number that is not 0, in every memory in which the table of math/bits lies as laid. -/
import Derived.Test.YthmddmddcdofaaaGg
import Derived.Lib.TrailingZeros
import Derived.Laws.BitsAllLaws
namespace Go.Proofs.Ythmddmddcdofaaa
open Go.RowKit

namespace Bm
theorem tz_key (x : Nat) (hx : x < 18446744073709551616) (hx0 : x ≠ 0) : ∃ idx : Nat, idx < 64 ∧ IntKind.u64.wrap (bits BinOp.and IntKind.u64 (x : Int) (IntKind.u64.wrap (-(x : Int))) * 285870213051353865) / 288230376151711744 = (idx : Int) ∧ Lib.deBruijn64tab.getD idx 0 = Lib.ctz 64 x ∧ Lib.ctz 64 x < 64 := by
  obtain ⟨hlow, hk⟩ := Lib.lowest_bit 64 x hx0 hx
  obtain ⟨hi, htab⟩ := Lib.deBruijn64_at _ hk
  refine ⟨_, hi, ?_, htab, hk⟩
  have e1 : IntKind.u64.wrap (-(x : Int)) = ((18446744073709551616 - x : Nat) : Int) := by rw [IntKind.wrap_u64]; omega
  have hl2 : x &&& (18446744073709551616 - x) = 2 ^ Lib.ctz 64 x := hlow
  rw [e1, u64_and_nat x _ hx (by omega), hl2, IntKind.wrap_u64]
  generalize 2 ^ Lib.ctz 64 x = a
  omega
end Bm

end Go.Proofs.Ythmddmddcdofaaa
