/- What l20Next and the draws of instructions and programs return. No conditions. -/
import Derived.Test.YtijgfpcpkmpdpaaNa
import Derived.Test.YtijgfpcpkmpdpaaKo
namespace Go.Proofs.Ytijgfpcpkmpdpaa
open Go.RowKit
set_option maxRecDepth 100000

/-- from block lo on nothing has changed -/
def Same (lo : Nat) (w w' : World) : Prop := w.heap.size ≤ w'.heap.size ∧ ∀ j, lo ≤ j → j < w.heap.size → w'.heap[j]? = w.heap[j]?
theorem Same.refl (lo : Nat) (w : World) : Same lo w w := ⟨Nat.le_refl _, fun _ _ _ => rfl⟩
theorem Same.grown {lo gr : Nat} {w w1 w2 : World} (h : Same lo w w1) (hg : w1.grownBy w2 (some gr)) (hl : gr < lo) : Same lo w w2 :=
  ⟨Nat.le_trans h.1 hg.size, fun j h1 h2 => (hg.block j (Nat.lt_of_lt_of_le h2 h.1) (fun e => by have := Option.some.inj e; omega)).trans (h.2 j h1 h2)⟩
theorem Same.put {lo g : Nat} {w w1 : World} (h : Same lo w w1) (hl : g < lo) (i : Nat) (v : Value) : Same lo w (w1.setCell ⟨g, i, none⟩ v) :=
  ⟨by simpa using h.1, fun j h1 h2 => (Below.heap_setCell w1 ⟨g, i, none⟩ v j (by show j ≠ g; omega)).trans (h.2 j h1 h2)⟩
theorem Same.rw {lo g : Nat} {w w1 : World} {t : TypeId} {cs : Array Value} (h : Same lo w w1) (hr : Rw w g t cs) (hl : lo ≤ g) : Rw w1 g t cs := (h.2 g hl hr.lt).trans hr
theorem HF.same {lo : Nat} {w w1 : World} {A R : Option Addr} {n m : Nat} {h : Hp} (hf : HF w lo A n R m h) (hs : Same lo w w1) : HF w1 lo A n R m h :=
  fun w' h1 h2 => hf w' (Nat.le_trans hs.1 h1) fun j h3 h4 => (h2 j h3 (Nat.lt_of_lt_of_le h4 hs.1)).trans (hs.2 j h3 h4)
theorem HF.low {lo lo' : Nat} {w : World} {A R : Option Addr} {n m : Nat} {h : Hp} (hf : HF w lo A n R m h) (hl : lo' ≤ lo) : HF w lo' A n R m h :=
  fun w' h1 h2 => hf w' h1 fun j h3 h4 => h2 j (by omega) h4

/-- a heap and an instruction have been drawn -/
def DrewN (w : World) (gr N : Nat) (e : Ending) (w' : World) : Prop :=
  ∃ (A : Option Addr) (nn c : Nat) (R : Option Addr) (m d : Nat) (h : Hp) (o : Cm), e = .returned (.tuple #[heapV A nn c R m d, cmV o]) ∧ nn ≤ c ∧ m ≤ d ∧ HF w' w.heap.size A nn R m h ∧ SmallH h ∧ SmallCm o ∧ Rd w' gr (N + 720) ∧ w.grownBy w' (some gr)

/-- an instruction has been drawn -/
def DrawnC (w : World) (e : Ending) (w' : World) : Prop := ∃ o : Cm, e = .returned (cmV o) ∧ SmallCm o ∧ Below w.heap.size w w'
/-- a list of instructions has been drawn -/
def DrawnP (w : World) (e : Ending) (w' : World) : Prop := ∃ (A : Option Addr) (n c : Nat) (l : List Cm), e = .returned (.slice A n c) ∧ n ≤ c ∧ n ≤ 41 ∧ OwnM w' w.heap.size (.slice A n c) l ∧ (∀ o ∈ l, SmallCm o) ∧ Below w.heap.size w w'
/-- a heap and an instruction have been drawn -/
def DrawnN (w : World) (e : Ending) (w' : World) : Prop :=
  ∃ (A : Option Addr) (nn c : Nat) (R : Option Addr) (m d : Nat) (h : Hp) (o : Cm), e = .returned (.tuple #[heapV A nn c R m d, cmV o]) ∧ nn ≤ c ∧ m ≤ d ∧ HS w' w'.heap.size A nn R m h ∧ SmallH h ∧ SmallCm o ∧ Below w.heap.size w w'

set_option maxHeartbeats 1000000 in
theorem drawCommandValid_any (A : Option Addr) (n c : Nat) (w : World) (h : Bytes w w.heap.size A n) (hc : n ≤ c) (hn : n ≤ 9223372036854775807) :
    Calls Try.prog 30 #[.slice A n c] w (DrawnC w) := by
  have b0 : Below w.heap.size w (w.alloc (.cells #[.int .i64 0, .int .i64 0, .int .i64 0, .int .i64 0] 43)) := (Below.refl _ _).alloc (Nat.le_refl _) _
  have h0 := (h.keep fun p hp => b0.cell hp).more b0.size
  have r0 := Rw.new w 43 #[.int .i64 0, .int .i64 0, .int .i64 0, .int .i64 0]
  go_enter Try.func30, Try.ntmps30
  go_wp2_with fail
  refine (open_any _ _ _ _ h0 hc hn).mono ?_
  rintro e w1 ⟨rfl, hr1, b1⟩
  have r1 := r0.keep b1 r0.lt
  have hz := r0.lt
  have bb1 := b0.trans (b1.mono b0.size)
  have hs0 := b0.size
  generalize w.alloc (.cells #[.int .i64 0, .int .i64 0, .int .i64 0, .int .i64 0] 43) = w0 at b0 h0 r0 hr1 b1 r1 hz bb1 hs0 ⊢
  go_wp2_with fail
  refine (l20Command_any _ _ 2 _ hr1 (by omega) (by omega) (by omega)).mono ?_
  rintro e w2 ⟨o, rfl, -, hs, -, g2⟩
  have r2 := r1.far g2 (fun e => by injection e with e; omega)
  have bb2 : Below w.heap.size w w2 := bb1.grown g2 bb1.size (fun k hk => by injection hk; omega)
  have u0 := r2.cell 0
  have u1 := r2.cell 1
  have u2 := r2.cell 2
  have u3 := r2.cell 3
  have v0 := r2.frozen 0
  have v1 := r2.frozen 1
  have v2 := r2.frozen 2
  have v3 := r2.frozen 3
  have rf := (((r2.put 0 (.int .i64 o.op)).put 1 (.int .i64 o.a)).put 2 (.int .i64 o.b)).put 3 (.int .i64 o.c)
  have z0 := rf.cell 0
  have z1 := rf.cell 1
  have z2 := rf.cell 2
  have z3 := rf.cell 3
  simp at u0 u1 u2 u3 z0 z1 z2 z3
  have BF := Lib.hid ((((bb2.setCell (p := ⟨w.heap.size, 0, none⟩) (Nat.le_refl _) (.int .i64 o.op)).setCell (p := ⟨w.heap.size, 1, none⟩) (Nat.le_refl _) (.int .i64 o.a)).setCell (p := ⟨w.heap.size, 2, none⟩) (Nat.le_refl _) (.int .i64 o.b)).setCell (p := ⟨w.heap.size, 3, none⟩) (Nat.le_refl _) (.int .i64 o.c))
  clear g2 r2 r1 r0 bb1 bb2 b0 b1 h0 hr1 rf
  go_wp2_with fail
  exact bodyPost_ret (v := cmV o) (by simp [results, Try.results30, go_sem, *]) rfl ⟨o, rfl, hs, BF.out⟩

theorem drawCommandsValid_any (A : Option Addr) (n c : Nat) (w : World) (h : Bytes w w.heap.size A n) (hc : n ≤ c) (hn : n ≤ 9223372036854775807) :
    Calls Try.prog 33 #[.slice A n c] w (DrawnP w) := by
  go_enter Try.func33, Try.ntmps33
  go_wp2_with fail
  refine (open_any _ _ _ _ h hc hn).mono ?_
  rintro e w1 ⟨rfl, hr1, b1⟩
  go_wp2_with fail
  refine (l20Program_any _ _ 2 _ hr1 (by omega) (by omega) (by omega)).mono ?_
  rintro e w2 ⟨v, l, rfl, ow, hl, hs, -, g2⟩
  obtain ⟨A2, c2, rfl, -⟩ := ow.form
  have hcap := ow.cap.2
  have bb2 : Below w.heap.size w w2 := b1.grown g2 b1.size (fun k hk => by injection hk; omega)
  have ob := ow.base b1.size
  go_wp2_with fail
  go_ret
  exact ⟨A2, _, c2, l, rfl, hcap, hl, ob, hs, bb2⟩

end Go.Proofs.Ytijgfpcpkmpdpaa
