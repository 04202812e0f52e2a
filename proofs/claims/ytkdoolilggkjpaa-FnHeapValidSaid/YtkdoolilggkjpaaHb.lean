/- Heaps in memory: how cells and roots lie there, heaps of a call's own. No conditions. -/
import Derived.Test.YtkdoolilggkjpaaIa
import Derived.Test.YtkdoolilggkjpaaHa
import Derived.Test.YtkdoolilggkjpaaRwk
namespace Go.Proofs.Ytkdoolilggkjpaa
open Go.RowKit

/-- the values of cells in a row; vs: the slices of their references -/
def flatC : List Cl → List Value → List Value
  | c :: cs, v :: vs => .bool c.u :: .int .i64 c.d :: v :: flatC cs vs
  | _, _ => []
theorem flatC_length : ∀ (cs : List Cl) (vs : List Value), vs.length = cs.length → (flatC cs vs).length = cs.length * 3
  | [], _, _ => by simp [flatC]
  | c :: cs, [], h => by simp at h
  | c :: cs, v :: vs, h => by
    have := flatC_length cs vs (by simpa using h)
    simp [flatC, this]
    omega
theorem flatC_at : ∀ (cs : List Cl) (vs : List Value) (k : Nat) (c : Cl) (v : Value), cs[k]? = some c → vs[k]? = some v → (flatC cs vs)[k * 3]? = some (.bool c.u) ∧ (flatC cs vs)[k * 3 + 1]? = some (.int .i64 c.d) ∧ (flatC cs vs)[k * 3 + 2]? = some v
  | [], _, k, c, v, h, _ => by simp at h
  | _ :: _, [], k, c, v, _, h => by simp at h
  | c' :: cs, v' :: vs, 0, c, v, h1, h2 => by
    simp at h1 h2
    subst h1 h2
    simp [flatC]
  | c' :: cs, v' :: vs, k + 1, c, v, h1, h2 => by
    have := flatC_at cs vs k c v (by simpa using h1) (by simpa using h2)
    rw [show (k + 1) * 3 = k * 3 + 3 by omega]
    simpa [flatC] using this
theorem flatC_append : ∀ (cs : List Cl) (vs : List Value) (ds : List Cl) (ws : List Value), vs.length = cs.length → flatC (cs ++ ds) (vs ++ ws) = flatC cs vs ++ flatC ds ws
  | [], [], ds, ws, _ => by simp [flatC]
  | [], v :: vs, _, _, h => by simp at h
  | c :: cs, [], _, _, h => by simp at h
  | c :: cs, v :: vs, ds, ws, h => by
    have := flatC_append cs vs ds ws (by simpa using h)
    simp [flatC, this]
theorem flatC_set_u : ∀ (cs : List Cl) (vs : List Value) (k : Nat) (c : Cl) (b : Bool), vs.length = cs.length → cs[k]? = some c → (flatC cs vs).set (k * 3) (.bool b) = flatC (cs.set k ⟨b, c.d, c.r⟩) vs
  | [], _, k, c, b, _, h => by simp at h
  | _ :: _, [], k, c, b, h, _ => by simp at h
  | c' :: cs, v' :: vs, 0, c, b, _, h1 => by
    simp at h1
    subst h1
    simp [flatC]
  | c' :: cs, v' :: vs, k + 1, c, b, h, h1 => by
    have := flatC_set_u cs vs k c b (by simpa using h) (by simpa using h1)
    rw [show (k + 1) * 3 = k * 3 + 3 by omega]
    simp [flatC, this]
theorem flatC_set_d : ∀ (cs : List Cl) (vs : List Value) (k : Nat) (c : Cl) (d : Int), vs.length = cs.length → cs[k]? = some c → (flatC cs vs).set (k * 3 + 1) (.int .i64 d) = flatC (cs.set k ⟨c.u, d, c.r⟩) vs
  | [], _, k, c, b, _, h => by simp at h
  | _ :: _, [], k, c, b, h, _ => by simp at h
  | c' :: cs, v' :: vs, 0, c, b, _, h1 => by
    simp at h1
    subst h1
    simp [flatC]
  | c' :: cs, v' :: vs, k + 1, c, b, h, h1 => by
    have := flatC_set_d cs vs k c b (by simpa using h) (by simpa using h1)
    rw [show (k + 1) * 3 + 1 = (k * 3 + 1) + 3 by omega]
    simp [flatC, this]
theorem flatC_set_r : ∀ (cs : List Cl) (vs : List Value) (k : Nat) (c : Cl) (v : Value) (r : List Int), vs.length = cs.length → cs[k]? = some c → (flatC cs vs).set (k * 3 + 2) v = flatC (cs.set k ⟨c.u, c.d, r⟩) (vs.set k v)
  | [], _, k, c, b, _, _, h => by simp at h
  | _ :: _, [], k, c, b, _, h, _ => by simp at h
  | c' :: cs, v' :: vs, 0, c, b, _, _, h1 => by
    simp at h1
    subst h1
    simp [flatC]
  | c' :: cs, v' :: vs, k + 1, c, b, r, h, h1 => by
    have := flatC_set_r cs vs k c b r (by simpa using h) (by simpa using h1)
    rw [show (k + 1) * 3 + 2 = (k * 3 + 2) + 3 by omega]
    simp [flatC, this]
/-- the references of a cell do not lie in its row -/
theorem flatC_refs : ∀ (cs : List Cl) (vs : List Value) (k : Nat) (c : Cl) (r : List Int), cs[k]? = some c → flatC (cs.set k ⟨c.u, c.d, r⟩) vs = flatC cs vs
  | [], _, k, c, r, h => by simp at h
  | _ :: _, [], k, c, r, _ => by cases k <;> simp [flatC]
  | c' :: cs, v' :: vs, 0, c, r, h1 => by
    simp at h1
    subst h1
    simp [flatC]
  | c' :: cs, v' :: vs, k + 1, c, r, h1 => by
    have := flatC_refs cs vs k c r (by simpa using h1)
    simp [flatC, this]

/-- the slice value '.slice A n _' reads as the cells cs, and lies below block B -/
def CS (w : World) (B : Nat) (A : Option Addr) (n : Nat) (cs : List Cl) : Prop :=
  cs.length = n ∧ (0 < n → ∃ g o, A = some ⟨g, o, none⟩ ∧ g < B ∧ ∀ (k : Nat) (c : Cl), cs[k]? = some c →
    w.cell? ⟨g, o + k * 3, none⟩ = some (.bool c.u) ∧ w.cell? ⟨g, o + k * 3 + 1, none⟩ = some (.int .i64 c.d) ∧ ∃ A' m cc, w.cell? ⟨g, o + k * 3 + 2, none⟩ = some (.slice A' m cc) ∧ m ≤ cc ∧ IS w B A' m c.r)
section
variable {w w' : World} {B B' n : Nat} {A : Option Addr} {cs : List Cl}
theorem CS.keep (h : CS w B A n cs) (hk : ∀ p : Addr, p.block < B → w'.cell? p = w.cell? p) : CS w' B A n cs :=
  ⟨h.1, fun hn => by
    obtain ⟨g, o, e, hb, hc⟩ := h.2 hn
    refine ⟨g, o, e, hb, fun k c hkc => ?_⟩
    obtain ⟨c1, c2, A', m, cc, c3, hm, hi⟩ := hc k c hkc
    exact ⟨(hk _ hb).trans c1, (hk _ hb).trans c2, A', m, cc, (hk _ hb).trans c3, hm, hi.keep hk⟩⟩
theorem CS.more (h : CS w B A n cs) (hB : B ≤ B') : CS w B' A n cs :=
  ⟨h.1, fun hn => by
    obtain ⟨g, o, e, hb, hc⟩ := h.2 hn
    refine ⟨g, o, e, by omega, fun k c hkc => ?_⟩
    obtain ⟨c1, c2, A', m, cc, c3, hm, hi⟩ := hc k c hkc
    exact ⟨c1, c2, A', m, cc, c3, hm, hi.more hB⟩⟩
theorem CS.below (h : CS w B A n cs) (hb : Below B w w') : CS w' B A n cs := h.keep fun _ hp => hb.cell hp
theorem CS.up {w w' : World} {n : Nat} {A : Option Addr} {cs : List Cl} (h : CS w w.heap.size A n cs) (hb : Below w.heap.size w w') : CS w' w'.heap.size A n cs := (h.below hb).more hb.size
theorem CS.at_ {k : Nat} (h : CS w B A n cs) (hk : k < n) : ∃ g o c A' m cc, A = some ⟨g, o, none⟩ ∧ g < B ∧ cs[k]? = some c ∧ w.cell? ⟨g, o + k * 3, none⟩ = some (.bool c.u) ∧ w.cell? ⟨g, o + k * 3 + 1, none⟩ = some (.int .i64 c.d) ∧ w.cell? ⟨g, o + k * 3 + 2, none⟩ = some (.slice A' m cc) ∧ m ≤ cc ∧ IS w B A' m c.r := by
  obtain ⟨g, o, e, hb, hc⟩ := h.2 (by omega)
  have hl : k < cs.length := by have := h.1; omega
  have hx := List.getElem?_eq_getElem hl
  obtain ⟨c1, c2, A', m, cc, c3, hm, hi⟩ := hc k _ hx
  exact ⟨g, o, _, A', m, cc, e, hb, hx, c1, c2, c3, hm, hi⟩
theorem CS.none_ (w : World) (B : Nat) (A : Option Addr) : CS w B A 0 [] := ⟨rfl, fun h => by omega⟩
end

/-- two slices read as a heap -/
structure HS (w : World) (B : Nat) (A : Option Addr) (n : Nat) (R : Option Addr) (m : Nat) (h : Hp) : Prop where
  cells : CS w B A n h.cs
  roots : IS w B R m h.rt
section
variable {w w' : World} {B B' n m : Nat} {A R : Option Addr} {h : Hp}
theorem HS.below (hs : HS w B A n R m h) (hb : Below B w w') : HS w' B A n R m h := ⟨hs.cells.below hb, hs.roots.below hb⟩
theorem HS.more (hs : HS w B A n R m h) (hB : B ≤ B') : HS w B' A n R m h := ⟨hs.cells.more hB, hs.roots.more hB⟩
theorem HS.up {w w' : World} {n m : Nat} {A R : Option Addr} {h : Hp} (hs : HS w w.heap.size A n R m h) (hb : Below w.heap.size w w') : HS w' w'.heap.size A n R m h := (hs.below hb).more hb.size
end

/-- no two of the values lie in one block -/
def Sep (l : List Value) : Prop := l.Pairwise fun a b => a.ownBlock = none ∨ a.ownBlock ≠ b.ownBlock

/-- a heap of the call's own: the slices of cells and of roots, and of every cell's references; rvs: the latter -/
structure OwnHx (w : World) (base : Nat) (vc vr : Value) (rvs : List Value) (h : Hp) : Prop where
  len : rvs.length = h.cs.length
  row : w.ownsRow base 31 3 vc h.cs.length (flatC h.cs rvs)
  refs : ∀ (k : Nat) (c : Cl) (v : Value), h.cs[k]? = some c → rvs[k]? = some v → OwnI w base v c.r
  roots : OwnI w base vr h.rt
  sep : Sep (vc :: vr :: rvs)
def OwnH (w : World) (base : Nat) (vc vr : Value) (h : Hp) : Prop := ∃ rvs, OwnHx w base vc vr rvs h

theorem OwnHx.form {w : World} {base : Nat} {vc vr : Value} {rvs : List Value} {h : Hp} (ho : OwnHx w base vc vr rvs h) : ∃ A c R d, vc = .slice A h.cs.length c ∧ vr = .slice R h.rt.length d ∧ h.cs.length ≤ c ∧ h.rt.length ≤ d ∧ (0 < h.cs.length → ∃ g, A = some ⟨g, 0, none⟩ ∧ base ≤ g ∧ g < w.heap.size) ∧ (0 < h.rt.length → ∃ g, R = some ⟨g, 0, none⟩ ∧ base ≤ g ∧ g < w.heap.size) := by
  obtain ⟨R, d, rfl, hR⟩ := ho.roots.form
  have hd := ho.roots.cap.2
  rcases ho.row.2 with ⟨e, h0⟩ | ⟨g, cap, cur, e, hb, hh, hc, _⟩
  · exact ⟨none, 0, R, d, by rw [e, h0], rfl, by omega, hd, fun h => by omega, hR⟩
  · exact ⟨some ⟨g, 0, none⟩, cap, R, d, e, rfl, hc, hd, fun _ => ⟨g, rfl, hb, (Array.getElem?_eq_some_iff.1 hh).1⟩, hR⟩
theorem OwnHx.ref {w : World} {base : Nat} {vc vr : Value} {rvs : List Value} {h : Hp} (ho : OwnHx w base vc vr rvs h) {k : Nat} {c : Cl} (hc : h.cs[k]? = some c) : ∃ v, rvs[k]? = some v ∧ OwnI w base v c.r := by
  have hk := (List.getElem?_eq_some_iff.1 hc).1
  have hv := List.getElem?_eq_getElem (show k < rvs.length by rw [ho.len]; exact hk)
  exact ⟨_, hv, ho.refs k c _ hc hv⟩
theorem OwnHx.reads {w : World} {base n c m d : Nat} {A R : Option Addr} {rvs : List Value} {h : Hp} (ho : OwnHx w base (.slice A n c) (.slice R m d) rvs h) : HS w w.heap.size A n R m h := by
  refine ⟨?_, ho.roots.reads⟩
  rcases ho.row.2 with ⟨e, h0⟩ | ⟨g, cap, cur, e, hb, hh, _⟩
  · injection e with e1 e2 e3
    subst e2
    exact ⟨h0, fun h => by omega⟩
  · injection e with e1 e2 e3
    subst e1 e2 e3
    refine ⟨rfl, fun hn => ⟨g, 0, rfl, (Array.getElem?_eq_some_iff.1 hh).1, fun k c hc => ?_⟩⟩
    have hk : k < h.cs.length := (List.getElem?_eq_some_iff.1 hc).1
    obtain ⟨v, hv, hi⟩ := ho.ref hc
    obtain ⟨f1, f2, f3⟩ := flatC_at _ _ _ _ _ hc hv
    obtain ⟨A', cc, rfl, _⟩ := hi.form
    have hcap := hi.cap.2
    rw [Nat.zero_add]
    exact ⟨(World.ownsRow.cellAt ho.row _ (by omega)).trans f1, (World.ownsRow.cellAt ho.row _ (by omega)).trans f2, A', _, cc, (World.ownsRow.cellAt ho.row _ (by omega)).trans f3, hcap, hi.reads⟩
theorem OwnHx.below {w w' : World} {base B : Nat} {vc vr : Value} {rvs : List Value} {h : Hp} (ho : OwnHx w base vc vr rvs h) (hb : Below B w w') (hB : w.heap.size ≤ B) : OwnHx w' base vc vr rvs h := by
  refine ⟨ho.len, ⟨ho.row.1, ?_⟩, fun k c v hc hv => (ho.refs k c v hc hv).below hb hB, ho.roots.below hb hB, ho.sep⟩
  rcases ho.row.2 with h0 | ⟨g, cap, cur, e, hb', hh, hr⟩
  · exact .inl h0
  · exact .inr ⟨g, cap, cur, e, hb', (hb.block g (Nat.lt_of_lt_of_le (Array.getElem?_eq_some_iff.1 hh).1 hB)).trans hh, hr⟩
theorem row_base {w : World} {base base' n : Nat} {e : TypeId} {s : Nat} {v : Value} {xs : List Value} (h : w.ownsRow base e s v n xs) (hb : base' ≤ base) : w.ownsRow base' e s v n xs := by
  refine ⟨h.1, ?_⟩
  rcases h.2 with h0 | ⟨g, cap, cur, e, hb', hh, hr⟩
  · exact .inl h0
  · exact .inr ⟨g, cap, cur, e, by omega, hh, hr⟩
theorem OwnHx.base {w : World} {base base' : Nat} {vc vr : Value} {rvs : List Value} {h : Hp} (ho : OwnHx w base vc vr rvs h) (hb : base' ≤ base) : OwnHx w base' vc vr rvs h :=
  ⟨ho.len, row_base ho.row hb, fun k c v hc hv => (ho.refs k c v hc hv).base hb, ho.roots.base hb, ho.sep⟩
/-- nothing that is the heap's is written -/
def Apart (row : Option Nat) (l : List Value) : Prop := ∀ v ∈ l, v.ownBlock = none ∨ v.ownBlock ≠ row
theorem OwnHx.far {w w' : World} {base : Nat} {vc vr : Value} {rvs : List Value} {h : Hp} {row : Option Nat} (ho : OwnHx w base vc vr rvs h) (hg : w.grownBy w' row) (ha : Apart row (vc :: vr :: rvs)) : OwnHx w' base vc vr rvs h :=
  ⟨ho.len, World.ownsRow.kept ho.row hg (ha vc (by simp)), fun k c v hc hv => (ho.refs k c v hc hv).far hg (ha v (by simp [List.mem_of_getElem? hv])), ho.roots.far hg (ha vr (by simp)), ho.sep⟩
/-- every block of the heap is of its own and old enough -/
theorem OwnHx.blocks {w : World} {base : Nat} {vc vr : Value} {rvs : List Value} {h : Hp} (ho : OwnHx w base vc vr rvs h) {v : Value} (hv : v ∈ vc :: vr :: rvs) {k : Nat} (hk : v.ownBlock = some k) : base ≤ k ∧ k < w.heap.size := by
  simp only [List.mem_cons] at hv
  rcases hv with rfl | rfl | hv
  · exact World.ownsRow.lt ho.row k hk
  · exact World.ownsRow.lt ho.roots k hk
  · obtain ⟨i, hi⟩ := List.mem_iff_getElem?.1 hv
    have hlt := (List.getElem?_eq_some_iff.1 hi).1
    have hc := List.getElem?_eq_getElem (show i < h.cs.length by rw [← ho.len]; exact hlt)
    exact World.ownsRow.lt (ho.refs i _ v hc hi) k hk
theorem OwnHx.apart_below {w : World} {base b : Nat} {vc vr : Value} {rvs : List Value} {h : Hp} (ho : OwnHx w base vc vr rvs h) (hb : b < base) : Apart (some b) (vc :: vr :: rvs) := fun v hv => by
  cases e : v.ownBlock with
  | none => exact .inl rfl
  | some k =>
    right
    have := (ho.blocks hv e).1
    intro he
    injection he with he
    omega
theorem OwnHx.apart_new {w : World} {base b : Nat} {vc vr : Value} {rvs : List Value} {h : Hp} (ho : OwnHx w base vc vr rvs h) (hb : w.heap.size ≤ b) : Apart (some b) (vc :: vr :: rvs) := fun v hv => by
  cases e : v.ownBlock with
  | none => exact .inl rfl
  | some k =>
    right
    have := (ho.blocks hv e).2
    intro he
    injection he with he
    omega
end Go.Proofs.Ytkdoolilggkjpaa
