/- How a heap of the laws that came in lies in memory. No conditions. -/
import Derived.Test.YtiojoailjiojjaaDoorHp
namespace Go.Proofs.YtiojoailjiojjaaDoor
open Go.ChangeShapes Go.WideShapes Go.ChangeAt Go.RowKit Go.Deep
set_option maxRecDepth 100000

theorem open_lawsHeap {H : Type} {enc : TypeId × Value → H} {W : World} {r : Reach} {base : Nat} {v : Value} {d : DataW H} {ps : List MemPlace} (hval : Value.okWide Tryd.prog W r base 55 v) (h : DataW.Trod enc Tryd.prog W 0 (fun _ => true) true 55 v d ps) (hlt : ∀ x ∈ ps, x.block < W.heap.size) :
    ∃ (A R : Option Addr) (n c m dd : Nat) (hp : Hp), v = .agg #[.slice A n c, .slice R m dd] ∧ n ≤ 9223372036854775807 ∧ m ≤ 9223372036854775807 ∧ HS W W.heap.size A n R m hp ∧ AllN hp.rt ∧ ∀ cl ∈ hp.cs, I64 cl.d ∧ AllN cl.r ∧ cl.r.length ≤ 9223372036854775807 :=
  open_heap (tc := 53) (tn := 24) (e := 143) (tb := 4) (ti := 3) Tryd.underlying55 (by kernel_rfl) rfl rfl rfl rfl (by kernel_rfl) (by kernel_rfl) Tryd.underlying53 Tryd.underlying24 Tryd.underlying143 (by kernel_rfl) rfl rfl rfl rfl rfl rfl Tryd.underlying4 Tryd.underlying3 (by kernel_rfl) (by kernel_rfl) hval h hlt
end Go.Proofs.YtiojoailjiojjaaDoor
