/- Taking a buddy, in a list: the model's BuddyTake as a plain function. No program, no conditions. -/
import Derived.Test.YthihaclhlmpioaaFits2
import Derived.Test.YthihaclhlmpioaaYd
namespace Go.Proofs.Ythihaclhlmpioaa
namespace Bud

/-- the free halves that are left: of the orders m, m + 1, .. -/
def halvesY (s : Int) (m k : Nat) : List Bl := (List.range k).map fun i => ⟨s + 2 ^ (m + i), (m + i : Nat), false⟩
theorem halvesY_zero (s : Int) (m : Nat) : halvesY s m 0 = [] := rfl
theorem halvesY_succ (s : Int) (m k : Nat) : halvesY s m (k + 1) = halvesY s m k ++ [⟨s + 2 ^ (m + k), (m + k : Nat), false⟩] := by
  unfold halvesY
  rw [List.range_succ, List.map_append]
  rfl
theorem halvesY_len (s : Int) (m k : Nat) : (halvesY s m k).length = k := by simp [halvesY]

def takenY (xs : List Bl) (k : Nat) (b : Bl) (m : Nat) : List Bl := xs.take k ++ [⟨b.s, m, true⟩] ++ halvesY b.s m (b.z.toNat - m) ++ xs.drop (k + 1)

def bestY (xs : List Bl) (size : Int) : Option Nat := if powW size < 0 then none else Bks.bestTo xs (powW size) xs.length
def takeY (xs : List Bl) (size : Int) : List Bl := match bestY xs size with
  | none => xs
  | some k => takenY xs k (xs.getD k default) (powW size).toNat
def startY (xs : List Bl) (size : Int) : Int := match bestY xs size with
  | none => -1
  | some k => (xs.getD k default).s
def okY (xs : List Bl) (size : Int) : Bool := (bestY xs size).isSome

theorem powW_range (s : Int) : powW s = -1 ∨ ∃ m : Nat, powW s = m ∧ m ≤ 8 := by
  unfold powW
  split
  · next h => exact .inr ⟨powN s, rfl, (powN_le h.2).2⟩
  · exact .inl rfl
end Bud
end Go.Proofs.Ythihaclhlmpioaa
