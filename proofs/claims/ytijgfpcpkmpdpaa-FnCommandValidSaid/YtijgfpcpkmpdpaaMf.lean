/- What the program's cloneHeap returns: for every heap. No conditions. -/
import Derived.Test.YtijgfpcpkmpdpaaMe
import Derived.Test.YtijgfpcpkmpdpaaKf
import Derived.Deep.Cut
namespace Go.Proofs.Ytijgfpcpkmpdpaa
open Go.RowKit
set_option maxRecDepth 100000

theorem row_form {w : World} {base n s : Nat} {e : TypeId} {v : Value} {xs : List Value} (h : w.ownsRow base e s v n xs) : ∃ A c, v = .slice A n c := by
  rcases h.2 with ⟨rfl, h0⟩ | ⟨g, cap, cur, rfl, _⟩
  · exact ⟨none, 0, by rw [h0]⟩
  · exact ⟨_, _, rfl⟩

end Go.Proofs.Ytijgfpcpkmpdpaa
