/- math/bits.TrailingZeros64 at every number that is not 0, in every memory in which the table of math/bits lies as laid. -/
import Derived.Test.YtiojoailjiojjaaDoorGg
import Derived.Lib.TrailingZeros
import Derived.Laws.BitsAllLaws
namespace Go.Proofs.YtiojoailjiojjaaDoor
open Go.RowKit

/-- the table of math/bits lies as laid -/
def TzT (w : World) : Prop := 0 < w.heap.size ∧ ∀ i : Nat, i < 64 → w.cell? ⟨0, i, none⟩ = some (.int .u8 (Lib.deBruijn64tab.getD i 0 : Nat))
theorem TzT.below {w w' : World} (h : TzT w) (hb : Below w.heap.size w w') : TzT w' := ⟨Nat.lt_of_lt_of_le h.1 hb.size, fun i hi => (hb.cell (p := ⟨0, i, none⟩) h.1).trans (h.2 i hi)⟩

namespace Bm
theorem tz_key (x : Nat) (hx : x < 18446744073709551616) (hx0 : x ≠ 0) : ∃ idx : Nat, idx < 64 ∧ IntKind.u64.wrap (bits BinOp.and IntKind.u64 (x : Int) (IntKind.u64.wrap (-(x : Int))) * 285870213051353865) / 288230376151711744 = (idx : Int) ∧ Lib.deBruijn64tab.getD idx 0 = Lib.ctz 64 x ∧ Lib.ctz 64 x < 64 := by
  obtain ⟨hlow, hk⟩ := Lib.lowest_bit 64 x hx0 hx
  obtain ⟨hi, htab⟩ := Lib.deBruijn64_at _ hk
  refine ⟨_, hi, ?_, htab, hk⟩
  have e1 : IntKind.u64.wrap (-(x : Int)) = ((18446744073709551616 - x : Nat) : Int) := by rw [IntKind.wrap_u64]; omega
  have hl2 : x &&& (18446744073709551616 - x) = 2 ^ Lib.ctz 64 x := hlow
  rw [e1, u64_and_nat x _ hx (by omega), hl2, IntKind.wrap_u64]
  generalize 2 ^ Lib.ctz 64 x = a
  omega
end Bm

set_option maxHeartbeats 1000000 in
theorem tz64_any (x : Nat) (w : World) (hT : TzT w) (h0 : x ≠ 0) (h1 : x < 18446744073709551616) :
    Calls Tryd.prog 101 #[.int .u64 x] w fun e w' => e = .returned (.int .i64 (Lib.ctz 64 x)) ∧ w = w' := by
  obtain ⟨idx, hi, key, htab, hk⟩ := Bm.tz_key x h1 h0
  have hcell := hT.2 idx hi
  rw [htab] at hcell
  have hx0 : ((x : Int) == 0) = false := by rw [beq_eq_false_iff_ne]; omega
  obtain ⟨k, hkk⟩ : ∃ k, Lib.ctz 64 x = k := ⟨_, rfl⟩
  rw [hkk] at hcell hk ⊢
  clear htab hkk
  go_enter Tryd.func101, Tryd.ntmps101
  go_wp2_with (simp only [key])
  go_ret
  exact ⟨rfl, rfl⟩

end Go.Proofs.YtiojoailjiojjaaDoor
