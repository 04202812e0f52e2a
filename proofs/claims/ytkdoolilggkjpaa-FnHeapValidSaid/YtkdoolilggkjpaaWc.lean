/- The exact law of BlocksValid returns true: for every slice of blocks and every total. -/
import Derived.Test.YtkdoolilggkjpaaWb
namespace Go.Proofs.Ytkdoolilggkjpaa
open Go.RowKit

theorem MadeBS.reads {w w' : World} {xs : List Bl} {e : Ending} (h : MadeBS w xs e w') (hi : ∀ (k : Nat) (x : Bl), xs[k]? = some x → I64 x.s ∧ I64 x.z) :
    e = .returned (.slice (some ⟨w.heap.size, 0, none⟩) xs.length xs.length) ∧ BS w' w'.heap.size (some ⟨w.heap.size, 0, none⟩) xs.length xs ∧ Below w.heap.size w w' := by
  obtain ⟨cs, he, hr, hc, hs, hb⟩ := h
  exact ⟨he, BS.of_row hr hc hr.lt hi, hb⟩

theorem BS.up {w w' : World} {n : Nat} {A : Option Addr} {xs : List Bl} (h : BS w w.heap.size A n xs) (hb : Below w.heap.size w w') : BS w' w'.heap.size A n xs := (h.below hb).more hb.size

end Go.Proofs.Ytkdoolilggkjpaa
