/- Blocks known whole, readers and bytes while memory grows. No conditions. -/
import Derived.Test.YtkdoolilggkjpaaDraw
namespace Go.Proofs.Ytkdoolilggkjpaa
open Go.RowKit
theorem Rw.far {w w' : World} {g : Nat} {t : TypeId} {cs : Array Value} {row : Option Nat} (h : Rw w g t cs) (hg : w.grownBy w' row) (hne : some g ≠ row) : Rw w' g t cs := (hg.block g h.lt hne).trans h
theorem grown_below {w a b : World} {row : Option Nat} (h : w.grownBy a row) (hb : Below w.heap.size a b) : w.grownBy b row :=
  ⟨hb.os.trans h.os, hb.tape.trans h.tape, hb.output.trans h.output, Nat.le_trans h.size hb.size, fun i hi hne => (hb.block i hi).trans (h.block i hi hne)⟩
theorem Bytes.more {w : World} {B B' m : Nat} {A : Option Addr} (h : Bytes w B A m) (hB : B ≤ B') : Bytes w B' A m := fun hm => by
  obtain ⟨b, o, e, hb, hc⟩ := h hm
  exact ⟨b, o, e, by omega, hc⟩
theorem Rw.other {w : World} {g g' i : Nat} {t : TypeId} {cs : Array Value} (h : Rw w g t cs) (hne : g ≠ g') (v : Value) : Rw (w.setCell ⟨g', i, none⟩ v) g t cs := (Below.heap_setCell _ _ _ _ hne).trans h
end Go.Proofs.Ytkdoolilggkjpaa
