/- What l20Next and the draws of instructions and programs return. No conditions. -/
import Derived.Test.YthmddmddcdofaaaNa
import Derived.Test.YthmddmddcdofaaaKo
namespace Go.Proofs.Ythmddmddcdofaaa
open Go.RowKit
set_option maxRecDepth 100000

/-- from block lo on nothing has changed -/
def Same (lo : Nat) (w w' : World) : Prop := w.heap.size ≤ w'.heap.size ∧ ∀ j, lo ≤ j → j < w.heap.size → w'.heap[j]? = w.heap[j]?
theorem Same.refl (lo : Nat) (w : World) : Same lo w w := ⟨Nat.le_refl _, fun _ _ _ => rfl⟩
theorem Same.grown {lo gr : Nat} {w w1 w2 : World} (h : Same lo w w1) (hg : w1.grownBy w2 (some gr)) (hl : gr < lo) : Same lo w w2 :=
  ⟨Nat.le_trans h.1 hg.size, fun j h1 h2 => (hg.block j (Nat.lt_of_lt_of_le h2 h.1) (fun e => by have := Option.some.inj e; omega)).trans (h.2 j h1 h2)⟩
theorem Same.put {lo g : Nat} {w w1 : World} (h : Same lo w w1) (hl : g < lo) (i : Nat) (v : Value) : Same lo w (w1.setCell ⟨g, i, none⟩ v) :=
  ⟨by simpa using h.1, fun j h1 h2 => (Below.heap_setCell w1 ⟨g, i, none⟩ v j (by show j ≠ g; omega)).trans (h.2 j h1 h2)⟩
theorem Same.rw {lo g : Nat} {w w1 : World} {t : TypeId} {cs : Array Value} (h : Same lo w w1) (hr : Rw w g t cs) (hl : lo ≤ g) : Rw w1 g t cs := (h.2 g hl hr.lt).trans hr
theorem HF.same {lo : Nat} {w w1 : World} {A R : Option Addr} {n m : Nat} {h : Hp} (hf : HF w lo A n R m h) (hs : Same lo w w1) : HF w1 lo A n R m h :=
  fun w' h1 h2 => hf w' (Nat.le_trans hs.1 h1) fun j h3 h4 => (h2 j h3 (Nat.lt_of_lt_of_le h4 hs.1)).trans (hs.2 j h3 h4)
theorem HF.low {lo lo' : Nat} {w : World} {A R : Option Addr} {n m : Nat} {h : Hp} (hf : HF w lo A n R m h) (hl : lo' ≤ lo) : HF w lo' A n R m h :=
  fun w' h1 h2 => hf w' h1 fun j h3 h4 => h2 j (by omega) h4

/-- a heap and an instruction have been drawn -/
def DrewN (w : World) (gr N : Nat) (e : Ending) (w' : World) : Prop :=
  ∃ (A : Option Addr) (nn c : Nat) (R : Option Addr) (m d : Nat) (h : Hp) (o : Cm), e = .returned (.tuple #[heapV A nn c R m d, cmV o]) ∧ nn ≤ c ∧ m ≤ d ∧ HF w' w.heap.size A nn R m h ∧ SmallH h ∧ SmallCm o ∧ Rd w' gr (N + 720) ∧ w.grownBy w' (some gr)

/-- an instruction has been drawn -/
def DrawnC (w : World) (e : Ending) (w' : World) : Prop := ∃ o : Cm, e = .returned (cmV o) ∧ SmallCm o ∧ Below w.heap.size w w'
/-- a list of instructions has been drawn -/
def DrawnP (w : World) (e : Ending) (w' : World) : Prop := ∃ (A : Option Addr) (n c : Nat) (l : List Cm), e = .returned (.slice A n c) ∧ n ≤ c ∧ n ≤ 41 ∧ OwnM w' w.heap.size (.slice A n c) l ∧ (∀ o ∈ l, SmallCm o) ∧ Below w.heap.size w w'
/-- a heap and an instruction have been drawn -/
def DrawnN (w : World) (e : Ending) (w' : World) : Prop :=
  ∃ (A : Option Addr) (nn c : Nat) (R : Option Addr) (m d : Nat) (h : Hp) (o : Cm), e = .returned (.tuple #[heapV A nn c R m d, cmV o]) ∧ nn ≤ c ∧ m ≤ d ∧ HS w' w'.heap.size A nn R m h ∧ SmallH h ∧ SmallCm o ∧ Below w.heap.size w w'

end Go.Proofs.Ythmddmddcdofaaa
