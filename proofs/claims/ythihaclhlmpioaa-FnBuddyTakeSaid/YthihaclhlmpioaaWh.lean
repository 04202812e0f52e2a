/- What the model's TakeBlock returns: for every slice of blocks and all numbers. -/
import Derived.Test.YthihaclhlmpioaaAppend
import Derived.Test.YthihaclhlmpioaaFits
import Derived.Deep.DeepMust
namespace Go.Proofs.Ythihaclhlmpioaa
open Go.RowKit

/-- blocks of the call's own, and a bool -/
def GaveB2 (w : World) (xs : List Bl) (ok : Bool) (e : Ending) (w' : World) : Prop := ∃ v, e = .returned (.tuple #[v, .bool ok]) ∧ OwnB w' w.heap.size v xs ∧ Below w.heap.size w w'

theorem own_none (w : World) (base : Nat) (hb : base ≤ w.heap.size) : OwnB (w.alloc (.cells #[] 55)) base (.slice (some ⟨w.heap.size, 0, none⟩) 0 0) [] :=
  World.ownsRow_lit (base := base) (e := 55) (size := 3) w #[] 0 hb (by unfold maxLen; omega) rfl

/-- a local block x in block b of the world WA, behind which only the call's own rows lie -/
def LocalB (WA : World) (b : Nat) (x : Bl) : Prop := WA.cell? ⟨b, 0, none⟩ = some (.int .i64 x.s) ∧ WA.cell? ⟨b, 1, none⟩ = some (.int .i64 x.z) ∧ WA.heap.size = b + 1

/-- the call has come from WA to w, and owns the blocks xs -/
structure TakeSt (WA : World) (b : Nat) (x : Bl) (w : World) (v : Value) (xs : List Bl) : Prop where
  loc : LocalB WA b x
  own : OwnB w (b + 1) v xs
  below : Below (b + 1) WA w

theorem TakeSt.cells {WA w : World} {b : Nat} {x : Bl} {v : Value} {xs : List Bl} (h : TakeSt WA b x w v xs) : w.cell? ⟨b, 0, none⟩ = some (.int .i64 x.s) ∧ w.cell? ⟨b, 1, none⟩ = some (.int .i64 x.z) ∧ b + 1 ≤ w.heap.size :=
  ⟨(h.below.cell (p := ⟨b, 0, none⟩) (Nat.lt_succ_self _)).trans h.loc.1, (h.below.cell (p := ⟨b, 1, none⟩) (Nat.lt_succ_self _)).trans h.loc.2.1, by have := h.below.size; have := h.loc.2.2; omega⟩

theorem LocalB.next {WA W w : World} {b : Nat} {x : Bl} {v v' : Value} {xs ys : List Bl} (h : LocalB WA b x) (hb : Below (b + 1) WA W) (ho : OwnB W (b + 1) v xs) (hg : W.grownBy w v.ownBlock) (ho' : OwnB w (b + 1) v' ys) : TakeSt WA b x w v' ys :=
  ⟨h, ho', hb.grown hg (by have := hb.size; have := h.2.2; omega) (fun k hk => (World.ownsRow.lt ho k hk).1)⟩

theorem TakeSt.more {WA W w : World} {b : Nat} {x : Bl} {v v' : Value} {xs ys : List Bl} {o : Obj} (h : TakeSt WA b x W v xs) (hg : (W.alloc o).grownBy w v.ownBlock) (ho' : OwnB w (b + 1) v' ys) : TakeSt WA b x w v' ys :=
  ⟨h.loc, ho', (h.below.alloc (by have := h.below.size; have := h.loc.2.2; omega) o).grown hg (by have := h.below.size; have := h.loc.2.2; simp; omega) (fun k hk => (World.ownsRow.lt h.own k hk).1)⟩

theorem TakeSt.again {WA W w : World} {b : Nat} {x : Bl} {v v' : Value} {xs ys : List Bl} (h : TakeSt WA b x W v xs) (hg : W.grownBy w v.ownBlock) (ho' : OwnB w (b + 1) v' ys) : TakeSt WA b x w v' ys :=
  ⟨h.loc, ho', h.below.grown hg (by have := h.below.size; have := h.loc.2.2; omega) (fun k hk => (World.ownsRow.lt h.own k hk).1)⟩

theorem OwnB.cast {w : World} {base : Nat} {v : Value} {xs ys : List Bl} (e : xs = ys) (h : OwnB w base v xs) : OwnB w base v ys := e ▸ h

theorem BS.end_ {w : World} {B n k : Nat} {A : Option Addr} {xs : List Bl} (h : BS w B A n xs) (hk : n ≤ k) : BS w B A (n - k) (xs.drop k) := by
  have hl := h.1
  rw [List.drop_eq_nil_of_le (by omega), show n - k = 0 by omega]
  exact BS.none_ w B A

theorem taken_yes {xs : List Bl} {k : Nat} {x : Bl} {size : Int} (hx : xs[k]? = some x) (hc : Bks.canTake xs k size = true) (h : size < x.z) : Bks.takeB xs k size = xs.take k ++ [⟨x.s, size, true⟩] ++ [⟨x.s + size, x.z - size, false⟩] ++ xs.drop (k + 1) := by
  rw [Bks.takeB, if_pos hc, Bks.taken]
  simp [hx, h]
theorem taken_no {xs : List Bl} {k : Nat} {x : Bl} {size : Int} (hx : xs[k]? = some x) (hc : Bks.canTake xs k size = true) (h : ¬ size < x.z) : Bks.takeB xs k size = xs.take k ++ [⟨x.s, size, true⟩] ++ xs.drop (k + 1) := by
  rw [Bks.takeB, if_pos hc, Bks.taken]
  simp [hx, h]

theorem allI_one {a b : Int} {u : Bool} (h1 : -9223372036854775808 ≤ a) (h2 : a ≤ 9223372036854775807) (h3 : -9223372036854775808 ≤ b) (h4 : b ≤ 9223372036854775807) : AllI [⟨a, b, u⟩] := by
  intro k x hx
  match k, hx with
  | 0, hx =>
    simp at hx
    subst hx
    exact ⟨⟨h1, h2⟩, ⟨h3, h4⟩⟩
  | k + 1, hx => simp at hx

end Go.Proofs.Ythihaclhlmpioaa
