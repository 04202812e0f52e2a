/- What freeByOrders of the program returns: for all valid buddies. -/
import Derived.Test.YthihaclhlmpioaaZe
import Derived.Test.YthihaclhlmpioaaInv
import Derived.Test.YthihaclhlmpioaaWr
namespace Go.Proofs.Ythihaclhlmpioaa
open Go.RowKit

theorem info_fl : (Try.prog.info? 62).map (fun i => (i.zero, i.size)) = some (some (.agg (Array.replicate 9 (.slice none 0 0))), 9) := by kernel_rfl

namespace Bud
/-- the beginnings of the free buddies of an order, among the first k -/
def freesTo (xs : List Bl) (k : Nat) (j : Nat) : List Int := ((xs.take k).filter fun b => !b.u && decide (b.z = (j : Int))).map Bl.s
theorem freesTo_succ {xs : List Bl} {k : Nat} {b : Bl} (h : xs[k]? = some b) (j : Nat) : freesTo xs (k + 1) j = freesTo xs k j ++ if b.u = false ∧ b.z = j then [b.s] else [] := by
  unfold freesTo
  rw [List.take_add_one, h]
  simp only [Option.toList_some, List.filter_append, List.map_append]
  congr 1
  cases hu : b.u <;> by_cases hz : b.z = j <;> simp [hu, hz]
theorem freesTo_len (xs : List Bl) (k j : Nat) : (freesTo xs k j).length ≤ xs.length := by
  unfold freesTo
  rw [List.length_map]
  exact Nat.le_trans (List.length_filter_le _ _) (by rw [List.length_take]; omega)
end Bud

/-- nine slices of the call's own numbers, apart from each other -/
structure FLst (w : World) (base : Nat) (cs : Array Value) (FL : Nat → List Int) : Prop where
  size : cs.size = 9
  own : ∀ j, j < 9 → OwnI w base (cs.getD j undef) (FL j)
  sep : ∀ i j, i < 9 → j < 9 → i ≠ j → (cs.getD i undef).ownBlock = none ∨ (cs.getD i undef).ownBlock ≠ (cs.getD j undef).ownBlock


theorem grown_of_below {a w : World} {B : Nat} (h : Below B a w) (hB : a.heap.size ≤ B) (row : Option Nat) : a.grownBy w row :=
  ⟨h.os, h.tape, h.output, h.size, fun i hi _ => h.block i (by omega)⟩
theorem OwnI.kept {w w' : World} {base : Nat} {v : Value} {vs : List Int} {row : Option Nat} (h : OwnI w base v vs) (hg : w.grownBy w' row) (hne : v.ownBlock = none ∨ v.ownBlock ≠ row) : OwnI w' base v vs := World.ownsRow.kept h hg hne
theorem OwnI.base {w : World} {base base' : Nat} {v : Value} {vs : List Int} (h : OwnI w base v vs) (hb : base' ≤ base) : OwnI w base' v vs := by
  refine ⟨h.1, ?_⟩
  rcases h.2 with h0 | ⟨g, cap, cur, e, hb', hh, hr⟩
  · exact .inl h0
  · exact .inr ⟨g, cap, cur, e, by omega, hh, hr⟩
theorem OwnI.below {w w' : World} {base B : Nat} {v : Value} {vs : List Int} (h : OwnI w base v vs) (hb : Below B w w') (hB : w.heap.size ≤ B) : OwnI w' base v vs := by
  refine ⟨h.1, ?_⟩
  rcases h.2 with h0 | ⟨g, cap, cur, e, hb', hh, hr⟩
  · exact .inl h0
  · exact .inr ⟨g, cap, cur, e, hb', (hb.block g (Nat.lt_of_lt_of_le (Array.getElem?_eq_some_iff.1 hh).1 hB)).trans hh, hr⟩
theorem OwnI.cast {w : World} {base : Nat} {v : Value} {vs us : List Int} (e : vs = us) (h : OwnI w base v vs) : OwnI w base v us := e ▸ h
/-- a store into a block before all own rows -/
theorem OwnI.put {w : World} {base g i : Nat} {v u : Value} {vs : List Int} (h : OwnI w base v vs) (hg : g < base) : OwnI (w.setCell ⟨g, i, none⟩ u) base v vs := by
  refine ⟨h.1, ?_⟩
  rcases h.2 with h0 | ⟨g', cap, cur, e, hb', hh, hr⟩
  · exact .inl h0
  · exact .inr ⟨g', cap, cur, e, hb', (Below.heap_setCell w _ u g' (by show g' ≠ g; omega)).trans hh, hr⟩

theorem OwnI.row {w : World} {base g : Nat} {v : Value} {vs : List Int} {cs : Array Value} (h : OwnI w base v vs) (hg : g < base) : OwnI (w.setRow g cs) base v vs := by
  refine ⟨h.1, ?_⟩
  rcases h.2 with h0 | ⟨g', cap, cur, e, hb', hh, hr⟩
  · exact .inl h0
  · refine .inr ⟨g', cap, cur, e, hb', ?_, hr⟩
    rw [← hh]
    simp only [World.setRow, Array.getElem?_modify]
    rw [if_neg (by omega)]
theorem FLst.below {w w' : World} {base B : Nat} {cs : Array Value} {FL : Nat → List Int} (h : FLst w base cs FL) (hb : Below B w w') (hB : w.heap.size ≤ B) : FLst w' base cs FL :=
  ⟨h.size, fun j hj => (h.own j hj).below hb hB, h.sep⟩
theorem FLst.base {w : World} {base base' : Nat} {cs : Array Value} {FL : Nat → List Int} (h : FLst w base cs FL) (hb : base' ≤ base) : FLst w base' cs FL :=
  ⟨h.size, fun j hj => (h.own j hj).base hb, h.sep⟩
theorem FLst.congr {w : World} {base : Nat} {cs : Array Value} {FL GL : Nat → List Int} (h : FLst w base cs FL) (e : ∀ j, j < 9 → FL j = GL j) : FLst w base cs GL :=
  ⟨h.size, fun j hj => (h.own j hj).cast (e j hj), h.sep⟩
theorem FLst.zero (w : World) (base : Nat) : FLst w base (Array.replicate 9 (.slice none 0 0)) (fun _ => []) := by
  have e : ∀ j, j < 9 → (Array.replicate 9 (Value.slice none 0 0)).getD j undef = .slice none 0 0 := fun j hj => by simp [Array.getD, hj]
  refine ⟨by simp, fun j hj => ?_, fun i j hi hj _ => ?_⟩
  · rw [e j hj]
    exact World.ownsRow_nil _ _ _ _
  · rw [e i hi]
    exact .inl rfl

theorem getD_set (cs : Array Value) {j i : Nat} (v : Value) (hj : j < cs.size) : (cs.setIfInBounds j v).getD i undef = if i = j then v else cs.getD i undef := by
  rw [Array.getD_eq_getD_getElem?, Array.getElem?_setIfInBounds, Array.getD_eq_getD_getElem?]
  by_cases e : j = i
  · subst e
    simp [hj]
  · rw [if_neg e, if_neg (fun e' => e e'.symm)]

/-- one number more in the j-th slice -/
theorem FLst.more {w0 w : World} {base j g : Nat} {cs : Array Value} {FL GL : Nat → List Int} {v' : Value} {s : Int} (h : FLst w0 base cs FL) (hj : j < 9) (hg : w0.grownBy w (cs.getD j undef).ownBlock)
    (ho : OwnI w base v' (FL j ++ [s])) (hob : v'.ownBlock = (cs.getD j undef).ownBlock ∨ ∃ b, v'.ownBlock = some b ∧ w0.heap.size ≤ b) (hgb : g < base)
    (e1 : GL j = FL j ++ [s]) (e2 : ∀ i, i < 9 → i ≠ j → GL i = FL i) : FLst (w.setCell ⟨g, j, none⟩ v') base (cs.setIfInBounds j v') GL := by
  have hs := h.size
  have hfar : ∀ i, i < 9 → i ≠ j → (cs.getD i undef).ownBlock = none ∨ (cs.getD i undef).ownBlock ≠ v'.ownBlock := by
    intro i hi hne
    rcases h.sep i j hi hj hne with h1 | h1
    · exact .inl h1
    · rcases hob with h2 | ⟨b, h2, h3⟩
      · exact .inr (by rw [h2]; exact h1)
      · cases e : (cs.getD i undef).ownBlock with
        | none => exact .inl rfl
        | some q =>
          right
          rw [h2]
          intro e'
          injection e' with e'
          have := (World.ownsRow.lt (h.own i hi) q e).2
          omega
  refine ⟨by simpa using hs, fun i hi => ?_, fun i i' hi hi' hne => ?_⟩
  · rw [getD_set cs v' (by omega)]
    by_cases e : i = j
    · subst e
      rw [if_pos rfl, e1]
      exact ho.put hgb
    · rw [if_neg e, e2 i hi e]
      exact ((h.own i hi).kept hg (h.sep i j hi hj e)).put hgb
  · rw [getD_set cs v' (by omega), getD_set cs v' (by omega)]
    by_cases e : i = j
    · subst e
      rw [if_pos rfl, if_neg (fun e => hne e.symm)]
      rcases hfar i' hi' (fun e => hne e.symm) with h1 | h1
      · cases e : v'.ownBlock with
        | none => exact .inl rfl
        | some k => right; rw [h1]; simp
      · exact .inr fun e => h1 e.symm
    · rw [if_neg e]
      by_cases e' : i' = j
      · subst e'
        rw [if_pos rfl]
        exact hfar i hi hne
      · rw [if_neg e']
        exact h.sep i i' hi hi' hne

theorem set9 (x v0 v1 v2 v3 v4 v5 v6 v7 v8 : Value) : ((((((((((Array.replicate 9 x).setIfInBounds 0 v0).setIfInBounds 1 v1).setIfInBounds 2 v2).setIfInBounds 3 v3).setIfInBounds 4 v4).setIfInBounds 5 v5).setIfInBounds 6 v6).setIfInBounds 7 v7).setIfInBounds 8 v8) = #[v0, v1, v2, v3, v4, v5, v6, v7, v8] := by
  apply Array.ext'
  simp only [Array.toList_setIfInBounds, Array.toList_replicate, List.replicate]
  rfl

/-- nine slices -/
def flv (A : Nat → Option Addr) (N C : Nat → Nat) : Array Value := #[.slice (A 0) (N 0) (C 0), .slice (A 1) (N 1) (C 1), .slice (A 2) (N 2) (C 2), .slice (A 3) (N 3) (C 3), .slice (A 4) (N 4) (C 4), .slice (A 5) (N 5) (C 5), .slice (A 6) (N 6) (C 6), .slice (A 7) (N 7) (C 7), .slice (A 8) (N 8) (C 8)]
theorem flv_at (A : Nat → Option Addr) (N C : Nat → Nat) {j : Nat} (hj : j < 9) : (flv A N C)[j]? = some (.slice (A j) (N j) (C j)) := by
  obtain rfl | rfl | rfl | rfl | rfl | rfl | rfl | rfl | rfl : j = 0 ∨ j = 1 ∨ j = 2 ∨ j = 3 ∨ j = 4 ∨ j = 5 ∨ j = 6 ∨ j = 7 ∨ j = 8 := by omega
  all_goals rfl
def sA : Value → Option Addr
  | .slice a _ _ => a
  | _ => none
def sN : Value → Nat
  | .slice _ n _ => n
  | _ => 0
def sC : Value → Nat
  | .slice _ _ c => c
  | _ => 0
theorem FLst.flv {w : World} {base : Nat} {cs : Array Value} {FL : Nat → List Int} (h : FLst w base cs FL) : ∃ A N C, cs = flv A N C := by
  refine ⟨fun j => sA (cs.getD j undef), fun j => sN (cs.getD j undef), fun j => sC (cs.getD j undef), ?_⟩
  apply Array.ext_getElem?
  intro j
  rcases Nat.lt_or_ge j 9 with hj | hj
  · rw [flv_at _ _ _ hj]
    obtain ⟨A, c, e⟩ := (h.own j hj).form
    rw [e]
    have hl : j < cs.size := by rw [h.size]; exact hj
    rw [Array.getD_eq_getD_getElem?, Array.getElem?_eq_getElem hl] at e
    rw [Array.getElem?_eq_getElem hl]
    exact congrArg some e
  · rw [Array.getElem?_eq_none (by rw [h.size]; exact hj), Array.getElem?_eq_none (by simp [Go.Proofs.Ythihaclhlmpioaa.flv]; omega)]
/-- what the nine slices read as -/
theorem FLst.reads {w : World} {base : Nat} {A : Nat → Option Addr} {N C : Nat → Nat} {FL : Nat → List Int} (h : FLst w base (Go.Proofs.Ythihaclhlmpioaa.flv A N C) FL) {j : Nat} (hj : j < 9) (hi : AllN (FL j)) : IS w w.heap.size (A j) (N j) (FL j) := by
  have ho := h.own j hj
  rw [Array.getD_eq_getD_getElem?, flv_at _ _ _ hj] at ho
  exact OwnI.reads ho hi

theorem upd_mono {L : Nat → Bool} {i k : Nat} (h : L k = true) : upd L i k = true := by
  unfold upd
  split
  · rfl
  · exact h
theorem upd_all {L : Nat → Bool} {i n m : Nat} (h : L n = true → ∀ k, k < m → L k = true) (hne : n ≠ i) : upd L i n = true → ∀ k, k < m → upd L i k = true :=
  fun hh k hk => upd_mono (h (upd_ne hh hne) k hk)
theorem grown_cell' {w w' : World} {row : Option Nat} (hg : w.grownBy w' row) (b o : Nat) (hb : b < w.heap.size) (hne : row ≠ some b) : w'.cell? ⟨b, o, none⟩ = w.cell? ⟨b, o, none⟩ :=
  World.cell?_of_block (hg.block b hb (fun e => hne e.symm))
theorem grown_frozen {w w' : World} {row : Option Nat} (hg : w.grownBy w' row) (b o : Nat) (hb : b < w.heap.size) (hne : row ≠ some b) : w'.frozen? ⟨b, o, none⟩ = w.frozen? ⟨b, o, none⟩ := by
  have := hg.block b hb (fun e => hne e.symm)
  simp only [World.frozen?, this]
theorem Rw.grown {w w' : World} {g : Nat} {t : TypeId} {cs : Array Value} {row : Option Nat} (h : Rw w g t cs) (hg : w.grownBy w' row) (hne : row ≠ some g) : Rw w' g t cs := (hg.block g h.lt (fun e => hne e.symm)).trans h
theorem Rw.other {w : World} {g g' i : Nat} {t : TypeId} {cs : Array Value} {u : Value} (h : Rw w g t cs) (hne : g ≠ g') : Rw (w.setCell ⟨g', i, none⟩ u) g t cs := (Below.heap_setCell w _ u g hne).trans h
theorem FLst.one {w : World} {base : Nat} {cs : Array Value} {FL : Nat → List Int} (h : FLst w base cs FL) : cs.all (·.oneCell') = true := by
  rw [Array.all_eq_true_iff_forall_mem]
  intro v hv
  obtain ⟨i, hi, rfl⟩ := Array.mem_iff_getElem.1 hv
  have e : cs.getD i undef = cs[i] := by rw [Array.getD_eq_getD_getElem?, Array.getElem?_eq_getElem hi]; rfl
  have ho := h.own i (by rw [← h.size]; exact hi)
  rw [e] at ho
  obtain ⟨A, c, e'⟩ := ho.form
  rw [e']
  rfl

/-- an append of one number onto the call's own numbers, as one operation -/
theorem app_step {w : World} {o : Oper} {a : Act} {K : Act → World → Prop} {Q : Exit → Act → World → Prop} (_hgd : o.guard = none) (s x : Operand)
    (ho : o.op = .call { callee := .builtin .append, args := #[s, x], argTypes := #[49, 49] })
    (base : Nat) (v : Value) (vs : List Int) (hs : a.eval s = v) (hown : OwnI w base v vs) (g c : Nat) (q : Int) (hx : a.eval x = .slice (some ⟨g, 0, none⟩) 1 c) (hr : w.cell? ⟨g, 0, none⟩ = some (.int .i64 q))
    (hn : vs.length + 1 ≤ 1099511627776) (hbase : base ≤ w.heap.size)
    (h : ∀ v' w', OwnI w' base v' (vs ++ [q]) → w.grownBy w' v.ownBlock → (v'.ownBlock = v.ownBlock ∨ v'.ownBlock = some w.heap.size) → K (a.put o.dst v') w') : Oper.wp Try.prog o a w K Q := by
  obtain ⟨i0, hi0, hz0, hz1, hz2⟩ := info_parts info_int
  obtain ⟨v', w', hrun, h2, h3, _, h5⟩ := run_append_own_at (P := Try.prog) w base 49 o.type 3 i0 _ 1 8 Try.underlying49 hi0 hz0 hz1 hz2 rfl (by omega) v vs.length (vs.map (.int .i64)) hown ⟨g, 0, none⟩ 1 c [.int .i64 q]
      (by simp) (fun j u hj => by
        cases j with
        | zero => simp at hj; subst hj; exact hr
        | succ j => simp at hj) (by simp [Value.oneCell']) (by unfold maxLen; omega) (by omega) hbase
  unfold Oper.wp execOp
  simp only [ho, resolve, invoke, builtin, Sem.run_bind, Sem.run_pure, Result.andThen_ok, List.map_toArray, List.map_cons, List.map_nil, hs, hx, hrun]
  refine h v' w' ?_ h3 h5
  unfold OwnI
  simpa using h2

set_option maxRecDepth 100000 in
set_option maxHeartbeats 2000000 in
theorem freeByOrders_any (A : Option Addr) (n c : Nat) (xs : List Bl) (p : Int) (w : World) (h : BS w w.heap.size A n xs) (hv : Bud.validY xs p = true) :
    Calls Try.prog 48 #[.slice A n c] w fun e w' => ∃ A' N C, e = .returned (.agg (flv A' N C)) ∧ FLst w' w.heap.size (flv A' N C) (Bud.freesTo xs n) ∧ Below w.heap.size w w' := by
  obtain ⟨hz, hsz⟩ := zero_of_info info_fl
  have HS := Lib.hid hsz
  have HV := Lib.hid hv
  have HL := Lib.hid h.1
  clear hsz hv
  go_enter Try.func48, Try.ntmps48
  go_wp2
  clear hz
  go_loopw [8] (fun i wr => ∃ (k : Nat) (cs : Array Value), k ≤ n ∧ i = .int .i64 k ∧ Rw wr (w.heap.size + 1) 62 cs ∧ FLst wr (w.heap.size + 2) cs (Bud.freesTo xs k) ∧ Rw wr w.heap.size 62 (Array.replicate 9 (.slice none 0 0)) ∧ Below w.heap.size w wr) (fun i _ => n - (intOf i).toNat)
  case atStart =>
    refine ⟨0, _, Nat.zero_le _, rfl, ?_, (FLst.zero _ _).congr (fun j _ => by simp [Bud.freesTo]), (Rw.new w _ _).alloc _, ((Below.refl _ _).alloc (Nat.le_refl _) _).alloc (by simp) _⟩
    have := Rw.new (w.alloc (.cells (Array.replicate 9 (.slice none 0 0)) 62)) 62 (Array.replicate 9 (.slice none 0 0))
    simpa using this
  case round =>
    obtain ⟨k, cs, hk, rfl, hrow, hst, hres, hb⟩ := hrel
    by_cases hlt : k < n
    · obtain ⟨g, o, x, rfl, hg, hx, ⟨i1, i2⟩, _, c1, c2, c3⟩ := (h.below hb).at_ hlt
      obtain ⟨j, z1, z2, z3, z4, z5, z6, z7⟩ := Bud.validY_at HV.out hx
      rw [z1] at c2
      have HX := Lib.hid hx
      have HZ := Lib.hid z1
      have HR := Lib.hid hrow
      have HR2 := Lib.hid hres
      have HST := Lib.hid hst
      have hwl := hrow.lt
      have hbs := hb.size
      have hF := Bud.freesTo_succ hx
      have hfl := Bud.freesTo_len xs k j
      have hl256 := (Bud.validY_len HV.out).2.1
      clear hx z1 z4 z5 z6 hrow hres hst
      cases hu : x.u
      · rw [hu] at c3
        obtain ⟨W0, hW0⟩ : ∃ W0, W0 = wr.alloc (.cells #[.int .i64 x.s, .int .i64 j, .bool false] 40) := ⟨_, rfl⟩
        have bW : Below wr.heap.size wr W0 := by rw [hW0]; exact (Below.refl _ _).alloc (Nat.le_refl _) _
        have sW : W0.heap.size = wr.heap.size + 1 := by rw [hW0]; simp
        have hj9 : j < 9 := by omega
        have hj9' : (j : Int) < 9 := by omega
        have own0 := HST.out.own j hj9
        obtain ⟨Av, cv, ev⟩ := own0.form
        have hcs : cs[j]? = some (cs.getD j undef) := by
          rw [Array.getD_eq_getD_getElem?, Array.getElem?_eq_getElem (by rw [HST.out.size]; exact hj9)]
          rfl
        rw [ev] at own0 hcs
        obtain ⟨nv, hnv⟩ : ∃ nv, (Bud.freesTo xs k j).length = nv := ⟨_, rfl⟩
        rw [hnv] at own0 hcs ev
        have hob : ∀ b, (Value.slice Av nv cv).ownBlock = some b → w.heap.size + 2 ≤ b ∧ b < wr.heap.size := fun b hb => World.ownsRow.lt own0 b hb
        have HOWN := Lib.hid (own0.below bW (Nat.le_refl _))
        have l0 : W0.cell? ⟨wr.heap.size, 0, none⟩ = some (.int .i64 x.s) := by rw [hW0]; simp
        have l1 : W0.cell? ⟨wr.heap.size, 1, none⟩ = some (.int .i64 j) := by rw [hW0]; simp
        have lG : W0.cell? ⟨w.heap.size + 1, j, none⟩ = some (.slice Av nv cv) := (bW.cell (p := ⟨w.heap.size + 1, j, none⟩) hwl).trans ((HR.out.cell j).trans hcs)
        have lF : W0.frozen? ⟨w.heap.size + 1, j, none⟩ = false := (HR.out.keep bW hwl).frozen j
        have HC := Lib.hid (fun w' (hw' : W0.grownBy w' (Value.slice Av nv cv).ownBlock) => (show w'.cell? ⟨wr.heap.size, 0, none⟩ = some (.int .i64 x.s) ∧ w'.cell? ⟨wr.heap.size, 1, none⟩ = some (.int .i64 j) ∧ w'.cell? ⟨w.heap.size + 1, j, none⟩ = some (.slice Av nv cv) ∧ w'.frozen? ⟨w.heap.size + 1, j, none⟩ = false from
          ⟨(grown_cell' hw' _ _ (by omega) (fun e => by have := hob _ e; omega)).trans l0, (grown_cell' hw' _ _ (by omega) (fun e => by have := hob _ e; omega)).trans l1, (grown_cell' hw' _ _ (by omega) (fun e => by have := hob _ e; omega)).trans lG, (grown_frozen hw' _ _ (by omega) (fun e => by have := hob _ e; omega)).trans lF⟩))
        have hlen1 : (Bud.freesTo xs k j).length + 1 ≤ 1099511627776 := by omega
        have hbase0 : w.heap.size + 2 ≤ W0.heap.size := by omega
        have HRW := Lib.hid (HR.out.keep bW hwl)
        have HRW2 := Lib.hid (HR2.out.keep bW (by omega))
        have HSTW := Lib.hid (HST.out.below bW (Nat.le_refl _))
        have HBW := Lib.hid (hb.trans (bW.mono hb.size))
        have HEV := Lib.hid ev
        have HOB := Lib.hid hob
        have HFF := Lib.hid hF
        have HU := Lib.hid hu
        have HW0 := Lib.hid hW0
        go_wp2_with fail
        rw [← HW0.out]
        clear l0 l1 lG lF own0 hcs c1 c2 c3 hW0 bW hwl
        refine wp_region_inv (by kernel_rfl) (by kernel_rfl) (fun L a ww => ∃ t15 t16 t17 t18 t19 t20 t21 t22 t23 t24 t25 : Value, a = { tmps := #[.slice (some ⟨g, o, none⟩) n c, undef, .pointer (some ⟨w.heap.size, 0, none⟩), .pointer (some ⟨w.heap.size + 1, 0, none⟩), undef, .pointer (some ⟨wr.heap.size, 0, none⟩), .slice (some ⟨g, o, none⟩) n c, .int .i64 n, .int .i64 k, .bool true, .pointer (some ⟨g, o + k * 3, none⟩), .agg #[.int .i64 x.s, .int .i64 j, .bool false], .pointer (some ⟨wr.heap.size, 2, none⟩), .bool false, .bool true, t15, t16, t17, t18, t19, t20, t21, t22, t23, t24, t25, u26, undef], defers := [] } ∧ (L 11 = true → ∀ i, i < 11 → L i = true) ∧ (L 9 = true → L 8 = true) ∧ (L 11 = false → W0.grownBy ww (Value.slice Av nv cv).ownBlock) ∧ (L 9 = false → Below W0.heap.size W0 ww) ∧ (L 0 = true → t15 = .pointer (some ⟨wr.heap.size, 1, none⟩)) ∧ (L 1 = true → t16 = .int .i64 j) ∧ (L 2 = true → t17 = .pointer (some ⟨wr.heap.size, 1, none⟩)) ∧ (L 3 = true → t18 = .int .i64 j) ∧ (L 4 = true → t19 = .pointer (some ⟨w.heap.size + 1, j, none⟩)) ∧ (L 5 = true → t20 = .slice Av nv cv) ∧ (L 6 = true → t21 = .pointer (some ⟨wr.heap.size, 0, none⟩)) ∧ (L 7 = true → t22 = .int .i64 x.s) ∧ (L 8 = true → ∃ gs, t23 = .slice (some ⟨gs, 0, none⟩) 1 1 ∧ (L 9 = false → ww.cell? ⟨gs, 0, none⟩ = some (.int .i64 x.s))) ∧ (L 9 = true → L 11 = false → OwnI ww (w.heap.size + 2) t24 (Bud.freesTo xs k j ++ [x.s]) ∧ (t24.ownBlock = (Value.slice Av nv cv).ownBlock ∨ ∃ b, t24.ownBlock = some b ∧ W0.heap.size ≤ b)) ∧ (L 10 = true → t25 = .pointer (some ⟨w.heap.size + 1, j, none⟩)) ∧ (L 11 = true → ∃ w1, ww = w1.setCell ⟨w.heap.size + 1, j, none⟩ t24 ∧ W0.grownBy w1 (Value.slice Av nv cv).ownBlock ∧ OwnI w1 (w.heap.size + 2) t24 (Bud.freesTo xs k j ++ [x.s]) ∧ (t24.ownBlock = (Value.slice Av nv cv).ownBlock ∨ ∃ b, t24.ownBlock = some b ∧ W0.heap.size ≤ b))) ?h0 ?hstep ?hdone
        case h0 => exact ⟨_, _, _, _, _, _, _, _, _, _, _, rfl, (fun h => absurd h Bool.false_ne_true), (fun h => absurd h Bool.false_ne_true), fun _ => grown_of_below (Below.refl _ _).drew (Nat.le_refl _) _, fun _ => (Below.refl _ _).drew, (fun h => absurd h Bool.false_ne_true), (fun h => absurd h Bool.false_ne_true), (fun h => absurd h Bool.false_ne_true), (fun h => absurd h Bool.false_ne_true), (fun h => absurd h Bool.false_ne_true), (fun h => absurd h Bool.false_ne_true), (fun h => absurd h Bool.false_ne_true), (fun h => absurd h Bool.false_ne_true), (fun h => absurd h Bool.false_ne_true), (fun h => absurd h Bool.false_ne_true), (fun h => absurd h Bool.false_ne_true), (fun h => absurd h Bool.false_ne_true)⟩
        case hstep =>
          rintro L a ww i o ho hL hd ⟨t15, t16, t17, t18, t19, t20, t21, t22, t23, t24, t25, rfl, hO, hO9, hW, hP, f0, f1, f2, f3, f4, f5, f6, f7, f8, f9, f10, f11⟩
          have hi : i < 12 := (Array.getElem?_eq_some_iff.1 ho).1
          obtain rfl | rfl | rfl | rfl | rfl | rfl | rfl | rfl | rfl | rfl | rfl | rfl : i = 0 ∨ i = 1 ∨ i = 2 ∨ i = 3 ∨ i = 4 ∨ i = 5 ∨ i = 6 ∨ i = 7 ∨ i = 8 ∨ i = 9 ∨ i = 10 ∨ i = 11 := by omega
          · obtain rfl := Option.some.inj ho
            have h11 : L 11 = false := by
              cases hh : L 11
              · rfl
              · exact absurd ((hO hh 0 (by omega)).symm.trans hL) (by decide)
            have hG := hW h11
            obtain ⟨k0, k1, kG, kF⟩ := HC.out ww hG
            refine wpOp_step rfl (fun K' hK => ?_)
            go_simp
            refine hK _ _ ?_
            exact ⟨_, _, _, _, _, _, _, _, _, _, _, rfl, upd_all hO (by decide), fun h => upd_mono (hO9 (upd_ne h (by decide))), fun h => hW (by rw [upd_other (by decide)] at h; exact h), fun h => hP (by rw [upd_other (by decide)] at h; exact h), (fun _ => rfl), (fun h => f1 (upd_ne h (by decide))), (fun h => f2 (upd_ne h (by decide))), (fun h => f3 (upd_ne h (by decide))), (fun h => f4 (upd_ne h (by decide))), (fun h => f5 (upd_ne h (by decide))), (fun h => f6 (upd_ne h (by decide))), (fun h => f7 (upd_ne h (by decide))), (fun h => by
                obtain ⟨gs, e1, e2⟩ := f8 (upd_ne h (by decide))
                exact ⟨gs, e1, fun h9 => e2 (by rw [upd_other (by decide)] at h9; exact h9)⟩), (fun h h11 => f9 (upd_ne h (by decide)) (by rw [upd_other (by decide)] at h11; exact h11)), (fun h => f10 (upd_ne h (by decide))), (fun h => f11 (upd_ne h (by decide)))⟩
          · obtain rfl := Option.some.inj ho
            have g0 := f0 (hd ⟨0, .data⟩ (by simp) rfl)
            have h11 : L 11 = false := by
              cases hh : L 11
              · rfl
              · exact absurd ((hO hh 1 (by omega)).symm.trans hL) (by decide)
            have hG := hW h11
            obtain ⟨k0, k1, kG, kF⟩ := HC.out ww hG
            subst g0
            refine wpOp_step rfl (fun K' hK => ?_)
            go_simp
            refine hK _ _ ?_
            exact ⟨_, _, _, _, _, _, _, _, _, _, _, rfl, upd_all hO (by decide), fun h => upd_mono (hO9 (upd_ne h (by decide))), fun h => hW (by rw [upd_other (by decide)] at h; exact h), fun h => hP (by rw [upd_other (by decide)] at h; exact h), (fun h => f0 (upd_ne h (by decide))), (fun _ => rfl), (fun h => f2 (upd_ne h (by decide))), (fun h => f3 (upd_ne h (by decide))), (fun h => f4 (upd_ne h (by decide))), (fun h => f5 (upd_ne h (by decide))), (fun h => f6 (upd_ne h (by decide))), (fun h => f7 (upd_ne h (by decide))), (fun h => by
                obtain ⟨gs, e1, e2⟩ := f8 (upd_ne h (by decide))
                exact ⟨gs, e1, fun h9 => e2 (by rw [upd_other (by decide)] at h9; exact h9)⟩), (fun h h11 => f9 (upd_ne h (by decide)) (by rw [upd_other (by decide)] at h11; exact h11)), (fun h => f10 (upd_ne h (by decide))), (fun h => f11 (upd_ne h (by decide)))⟩
          · obtain rfl := Option.some.inj ho
            have h11 : L 11 = false := by
              cases hh : L 11
              · rfl
              · exact absurd ((hO hh 2 (by omega)).symm.trans hL) (by decide)
            have hG := hW h11
            obtain ⟨k0, k1, kG, kF⟩ := HC.out ww hG
            refine wpOp_step rfl (fun K' hK => ?_)
            go_simp
            refine hK _ _ ?_
            exact ⟨_, _, _, _, _, _, _, _, _, _, _, rfl, upd_all hO (by decide), fun h => upd_mono (hO9 (upd_ne h (by decide))), fun h => hW (by rw [upd_other (by decide)] at h; exact h), fun h => hP (by rw [upd_other (by decide)] at h; exact h), (fun h => f0 (upd_ne h (by decide))), (fun h => f1 (upd_ne h (by decide))), (fun _ => rfl), (fun h => f3 (upd_ne h (by decide))), (fun h => f4 (upd_ne h (by decide))), (fun h => f5 (upd_ne h (by decide))), (fun h => f6 (upd_ne h (by decide))), (fun h => f7 (upd_ne h (by decide))), (fun h => by
                obtain ⟨gs, e1, e2⟩ := f8 (upd_ne h (by decide))
                exact ⟨gs, e1, fun h9 => e2 (by rw [upd_other (by decide)] at h9; exact h9)⟩), (fun h h11 => f9 (upd_ne h (by decide)) (by rw [upd_other (by decide)] at h11; exact h11)), (fun h => f10 (upd_ne h (by decide))), (fun h => f11 (upd_ne h (by decide)))⟩
          · obtain rfl := Option.some.inj ho
            have g2 := f2 (hd ⟨2, .data⟩ (by simp) rfl)
            have h11 : L 11 = false := by
              cases hh : L 11
              · rfl
              · exact absurd ((hO hh 3 (by omega)).symm.trans hL) (by decide)
            have hG := hW h11
            obtain ⟨k0, k1, kG, kF⟩ := HC.out ww hG
            subst g2
            refine wpOp_step rfl (fun K' hK => ?_)
            go_simp
            refine hK _ _ ?_
            exact ⟨_, _, _, _, _, _, _, _, _, _, _, rfl, upd_all hO (by decide), fun h => upd_mono (hO9 (upd_ne h (by decide))), fun h => hW (by rw [upd_other (by decide)] at h; exact h), fun h => hP (by rw [upd_other (by decide)] at h; exact h), (fun h => f0 (upd_ne h (by decide))), (fun h => f1 (upd_ne h (by decide))), (fun h => f2 (upd_ne h (by decide))), (fun _ => rfl), (fun h => f4 (upd_ne h (by decide))), (fun h => f5 (upd_ne h (by decide))), (fun h => f6 (upd_ne h (by decide))), (fun h => f7 (upd_ne h (by decide))), (fun h => by
                obtain ⟨gs, e1, e2⟩ := f8 (upd_ne h (by decide))
                exact ⟨gs, e1, fun h9 => e2 (by rw [upd_other (by decide)] at h9; exact h9)⟩), (fun h h11 => f9 (upd_ne h (by decide)) (by rw [upd_other (by decide)] at h11; exact h11)), (fun h => f10 (upd_ne h (by decide))), (fun h => f11 (upd_ne h (by decide)))⟩
          · obtain rfl := Option.some.inj ho
            have g3 := f3 (hd ⟨3, .data⟩ (by simp) rfl)
            have h11 : L 11 = false := by
              cases hh : L 11
              · rfl
              · exact absurd ((hO hh 4 (by omega)).symm.trans hL) (by decide)
            have hG := hW h11
            obtain ⟨k0, k1, kG, kF⟩ := HC.out ww hG
            subst g3
            refine wpOp_step rfl (fun K' hK => ?_)
            go_simp
            refine hK _ _ ?_
            exact ⟨_, _, _, _, _, _, _, _, _, _, _, rfl, upd_all hO (by decide), fun h => upd_mono (hO9 (upd_ne h (by decide))), fun h => hW (by rw [upd_other (by decide)] at h; exact h), fun h => hP (by rw [upd_other (by decide)] at h; exact h), (fun h => f0 (upd_ne h (by decide))), (fun h => f1 (upd_ne h (by decide))), (fun h => f2 (upd_ne h (by decide))), (fun h => f3 (upd_ne h (by decide))), (fun _ => by simp), (fun h => f5 (upd_ne h (by decide))), (fun h => f6 (upd_ne h (by decide))), (fun h => f7 (upd_ne h (by decide))), (fun h => by
                obtain ⟨gs, e1, e2⟩ := f8 (upd_ne h (by decide))
                exact ⟨gs, e1, fun h9 => e2 (by rw [upd_other (by decide)] at h9; exact h9)⟩), (fun h h11 => f9 (upd_ne h (by decide)) (by rw [upd_other (by decide)] at h11; exact h11)), (fun h => f10 (upd_ne h (by decide))), (fun h => f11 (upd_ne h (by decide)))⟩
          · obtain rfl := Option.some.inj ho
            have g4 := f4 (hd ⟨4, .data⟩ (by simp) rfl)
            have h11 : L 11 = false := by
              cases hh : L 11
              · rfl
              · exact absurd ((hO hh 5 (by omega)).symm.trans hL) (by decide)
            have hG := hW h11
            obtain ⟨k0, k1, kG, kF⟩ := HC.out ww hG
            subst g4
            refine wpOp_step rfl (fun K' hK => ?_)
            go_simp
            refine hK _ _ ?_
            exact ⟨_, _, _, _, _, _, _, _, _, _, _, rfl, upd_all hO (by decide), fun h => upd_mono (hO9 (upd_ne h (by decide))), fun h => hW (by rw [upd_other (by decide)] at h; exact h), fun h => hP (by rw [upd_other (by decide)] at h; exact h), (fun h => f0 (upd_ne h (by decide))), (fun h => f1 (upd_ne h (by decide))), (fun h => f2 (upd_ne h (by decide))), (fun h => f3 (upd_ne h (by decide))), (fun h => f4 (upd_ne h (by decide))), (fun _ => rfl), (fun h => f6 (upd_ne h (by decide))), (fun h => f7 (upd_ne h (by decide))), (fun h => by
                obtain ⟨gs, e1, e2⟩ := f8 (upd_ne h (by decide))
                exact ⟨gs, e1, fun h9 => e2 (by rw [upd_other (by decide)] at h9; exact h9)⟩), (fun h h11 => f9 (upd_ne h (by decide)) (by rw [upd_other (by decide)] at h11; exact h11)), (fun h => f10 (upd_ne h (by decide))), (fun h => f11 (upd_ne h (by decide)))⟩
          · obtain rfl := Option.some.inj ho
            have h11 : L 11 = false := by
              cases hh : L 11
              · rfl
              · exact absurd ((hO hh 6 (by omega)).symm.trans hL) (by decide)
            have hG := hW h11
            obtain ⟨k0, k1, kG, kF⟩ := HC.out ww hG
            refine wpOp_step rfl (fun K' hK => ?_)
            go_simp
            refine hK _ _ ?_
            exact ⟨_, _, _, _, _, _, _, _, _, _, _, rfl, upd_all hO (by decide), fun h => upd_mono (hO9 (upd_ne h (by decide))), fun h => hW (by rw [upd_other (by decide)] at h; exact h), fun h => hP (by rw [upd_other (by decide)] at h; exact h), (fun h => f0 (upd_ne h (by decide))), (fun h => f1 (upd_ne h (by decide))), (fun h => f2 (upd_ne h (by decide))), (fun h => f3 (upd_ne h (by decide))), (fun h => f4 (upd_ne h (by decide))), (fun h => f5 (upd_ne h (by decide))), (fun _ => rfl), (fun h => f7 (upd_ne h (by decide))), (fun h => by
                obtain ⟨gs, e1, e2⟩ := f8 (upd_ne h (by decide))
                exact ⟨gs, e1, fun h9 => e2 (by rw [upd_other (by decide)] at h9; exact h9)⟩), (fun h h11 => f9 (upd_ne h (by decide)) (by rw [upd_other (by decide)] at h11; exact h11)), (fun h => f10 (upd_ne h (by decide))), (fun h => f11 (upd_ne h (by decide)))⟩
          · obtain rfl := Option.some.inj ho
            have g6 := f6 (hd ⟨6, .data⟩ (by simp) rfl)
            have h11 : L 11 = false := by
              cases hh : L 11
              · rfl
              · exact absurd ((hO hh 7 (by omega)).symm.trans hL) (by decide)
            have hG := hW h11
            obtain ⟨k0, k1, kG, kF⟩ := HC.out ww hG
            subst g6
            refine wpOp_step rfl (fun K' hK => ?_)
            go_simp
            refine hK _ _ ?_
            exact ⟨_, _, _, _, _, _, _, _, _, _, _, rfl, upd_all hO (by decide), fun h => upd_mono (hO9 (upd_ne h (by decide))), fun h => hW (by rw [upd_other (by decide)] at h; exact h), fun h => hP (by rw [upd_other (by decide)] at h; exact h), (fun h => f0 (upd_ne h (by decide))), (fun h => f1 (upd_ne h (by decide))), (fun h => f2 (upd_ne h (by decide))), (fun h => f3 (upd_ne h (by decide))), (fun h => f4 (upd_ne h (by decide))), (fun h => f5 (upd_ne h (by decide))), (fun h => f6 (upd_ne h (by decide))), (fun _ => rfl), (fun h => by
                obtain ⟨gs, e1, e2⟩ := f8 (upd_ne h (by decide))
                exact ⟨gs, e1, fun h9 => e2 (by rw [upd_other (by decide)] at h9; exact h9)⟩), (fun h h11 => f9 (upd_ne h (by decide)) (by rw [upd_other (by decide)] at h11; exact h11)), (fun h => f10 (upd_ne h (by decide))), (fun h => f11 (upd_ne h (by decide)))⟩
          · obtain rfl := Option.some.inj ho
            have g7 := f7 (hd ⟨7, .data⟩ (by simp) rfl)
            have h11 : L 11 = false := by
              cases hh : L 11
              · rfl
              · exact absurd ((hO hh 8 (by omega)).symm.trans hL) (by decide)
            have hG := hW h11
            obtain ⟨k0, k1, kG, kF⟩ := HC.out ww hG
            subst g7
            have h9 : L 9 = false := by
              cases hh : L 9
              · rfl
              · exact absurd ((hO9 hh).symm.trans hL) (by decide)
            refine wpOp_step rfl (fun K' hK => ?_)
            go_simp
            refine hK _ _ ?_
            exact ⟨_, _, _, _, _, _, _, _, _, _, _, rfl, upd_all hO (by decide), fun _ => upd_self, fun h => grown_of_below ((hP h9).alloc (hP h9).size _) (Nat.le_refl _) _, fun _ => (hP h9).alloc (hP h9).size _, (fun h => f0 (upd_ne h (by decide))), (fun h => f1 (upd_ne h (by decide))), (fun h => f2 (upd_ne h (by decide))), (fun h => f3 (upd_ne h (by decide))), (fun h => f4 (upd_ne h (by decide))), (fun h => f5 (upd_ne h (by decide))), (fun h => f6 (upd_ne h (by decide))), (fun h => f7 (upd_ne h (by decide))), (fun _ => ⟨_, rfl, fun _ => by simp⟩), (fun h => absurd ((upd_ne h (by decide)).symm.trans h9) (by decide)), (fun h => f10 (upd_ne h (by decide))), (fun h => absurd ((upd_ne h (by decide)).symm.trans h11) (by decide))⟩
          · obtain rfl := Option.some.inj ho
            have g5 := f5 (hd ⟨5, .data⟩ (by simp) rfl)
            have g8 := f8 (hd ⟨8, .data⟩ (by simp) rfl)
            have h11 : L 11 = false := by
              cases hh : L 11
              · rfl
              · exact absurd ((hO hh 9 (by omega)).symm.trans hL) (by decide)
            have hG := hW h11
            obtain ⟨k0, k1, kG, kF⟩ := HC.out ww hG
            subst g5
            obtain ⟨gs, rfl, e8⟩ := g8
            have hcell := e8 hL
            have hB := hP hL
            refine wpOp_step rfl (fun K' hK => ?_)
            refine app_step rfl (.tmp 20) (.tmp 23) rfl (w.heap.size + 2) _ (Bud.freesTo xs k j) rfl (HOWN.out.below hB (Nat.le_refl _)) gs 1 x.s rfl hcell hlen1 (Nat.le_trans hbase0 hB.size) ?_
            intro v' w' o1 g1 s1
            refine hK _ _ ?_
            exact ⟨_, _, _, _, _, _, _, _, _, _, _, rfl, upd_all hO (by decide), fun _ => upd_mono (hd ⟨8, .data⟩ (by simp) rfl), fun _ => World.grownBy.trans hG g1, fun h => absurd (upd_self.symm.trans h) (by decide), (fun h => f0 (upd_ne h (by decide))), (fun h => f1 (upd_ne h (by decide))), (fun h => f2 (upd_ne h (by decide))), (fun h => f3 (upd_ne h (by decide))), (fun h => f4 (upd_ne h (by decide))), (fun h => f5 (upd_ne h (by decide))), (fun h => f6 (upd_ne h (by decide))), (fun h => f7 (upd_ne h (by decide))), (fun _ => ⟨gs, rfl, fun h => absurd (upd_self.symm.trans h) (by decide)⟩), (fun _ _ => ⟨o1, s1.imp id (fun e => ⟨_, e, hB.size⟩)⟩), (fun h => f10 (upd_ne h (by decide))), (fun h => absurd ((upd_ne h (by decide)).symm.trans h11) (by decide))⟩
          · obtain rfl := Option.some.inj ho
            have g1 := f1 (hd ⟨1, .data⟩ (by simp) rfl)
            have h11 : L 11 = false := by
              cases hh : L 11
              · rfl
              · exact absurd ((hO hh 10 (by omega)).symm.trans hL) (by decide)
            have hG := hW h11
            obtain ⟨k0, k1, kG, kF⟩ := HC.out ww hG
            subst g1
            refine wpOp_step rfl (fun K' hK => ?_)
            go_simp
            refine hK _ _ ?_
            exact ⟨_, _, _, _, _, _, _, _, _, _, _, rfl, upd_all hO (by decide), fun h => upd_mono (hO9 (upd_ne h (by decide))), fun h => hW (by rw [upd_other (by decide)] at h; exact h), fun h => hP (by rw [upd_other (by decide)] at h; exact h), (fun h => f0 (upd_ne h (by decide))), (fun h => f1 (upd_ne h (by decide))), (fun h => f2 (upd_ne h (by decide))), (fun h => f3 (upd_ne h (by decide))), (fun h => f4 (upd_ne h (by decide))), (fun h => f5 (upd_ne h (by decide))), (fun h => f6 (upd_ne h (by decide))), (fun h => f7 (upd_ne h (by decide))), (fun h => by
                obtain ⟨gs, e1, e2⟩ := f8 (upd_ne h (by decide))
                exact ⟨gs, e1, fun h9 => e2 (by rw [upd_other (by decide)] at h9; exact h9)⟩), (fun h h11 => f9 (upd_ne h (by decide)) (by rw [upd_other (by decide)] at h11; exact h11)), (fun _ => by simp), (fun h => f11 (upd_ne h (by decide)))⟩
          · obtain rfl := Option.some.inj ho
            have g10 := f10 (hd ⟨10, .data⟩ (by simp) rfl)
            have g9 := f9 (hd ⟨9, .data⟩ (by simp) rfl)
            subst g10
            have h9 := hd ⟨9, .data⟩ (by simp) rfl
            have hG := hW hL
            obtain ⟨k0, k1, kG, kF⟩ := HC.out ww hG
            obtain ⟨o9, b9⟩ := g9 hL
            obtain ⟨A9, c9, e9⟩ := o9.form
            obtain ⟨n9, hn9⟩ : ∃ n9, (Bud.freesTo xs k j ++ [x.s]).length = n9 := ⟨_, rfl⟩
            rw [hn9] at e9
            clear hn9
            subst e9
            have hphase := Lib.hid (show ∀ k, k < 11 → L k = true by
              intro k hk
              obtain rfl | rfl | rfl | rfl | rfl | rfl | rfl | rfl | rfl | rfl | rfl : k = 0 ∨ k = 1 ∨ k = 2 ∨ k = 3 ∨ k = 4 ∨ k = 5 ∨ k = 6 ∨ k = 7 ∨ k = 8 ∨ k = 9 ∨ k = 10 := by omega
              · exact hd ⟨0, .phase⟩ (by simp) rfl
              · exact hd ⟨1, .phase⟩ (by simp) rfl
              · exact hd ⟨2, .phase⟩ (by simp) rfl
              · exact hd ⟨3, .phase⟩ (by simp) rfl
              · exact hd ⟨4, .phase⟩ (by simp) rfl
              · exact hd ⟨5, .phase⟩ (by simp) rfl
              · exact hd ⟨6, .phase⟩ (by simp) rfl
              · exact hd ⟨7, .phase⟩ (by simp) rfl
              · exact hd ⟨8, .phase⟩ (by simp) rfl
              · exact hd ⟨9, .phase⟩ (by simp) rfl
              · exact hd ⟨10, .data⟩ (by simp) rfl)
            refine wpOp_step rfl (fun K' hK => ?_)
            go_simp
            refine hK _ _ ?_
            exact ⟨_, _, _, _, _, _, _, _, _, _, _, rfl, fun _ k hk => upd_mono (hphase.out k hk), fun h => upd_mono (hO9 (upd_ne h (by decide))), fun h => absurd (upd_self.symm.trans h) (by decide), fun h => absurd ((upd_other (by decide)).symm.trans h) (by rw [h9]; decide), (fun h => f0 (upd_ne h (by decide))), (fun h => f1 (upd_ne h (by decide))), (fun h => f2 (upd_ne h (by decide))), (fun h => f3 (upd_ne h (by decide))), (fun h => f4 (upd_ne h (by decide))), (fun h => f5 (upd_ne h (by decide))), (fun h => f6 (upd_ne h (by decide))), (fun h => f7 (upd_ne h (by decide))), (fun h => by
                obtain ⟨gs, e1, e2⟩ := f8 (upd_ne h (by decide))
                exact ⟨gs, e1, fun h9' => absurd ((upd_other (by decide)).symm.trans h9') (by rw [h9]; decide)⟩), (fun _ h => absurd (upd_self.symm.trans h) (by decide)), (fun h => f10 (upd_ne h (by decide))), (fun _ => ⟨ww, rfl, hG, o9, b9⟩)⟩
        case hdone =>
          rintro L a ww hall ⟨t15, t16, t17, t18, t19, t20, t21, t22, t23, t24, t25, rfl, hO, hO9, hW, hP, f0, f1, f2, f3, f4, f5, f6, f7, f8, f9, f10, f11⟩
          obtain ⟨w1, rfl, hG, o9, b9⟩ := f11 (hall 11 (by decide))
          have e0 := f0 (hall 0 (by decide))
          have e1 := f1 (hall 1 (by decide))
          have e2 := f2 (hall 2 (by decide))
          have e3 := f3 (hall 3 (by decide))
          have e4 := f4 (hall 4 (by decide))
          have e5 := f5 (hall 5 (by decide))
          have e6 := f6 (hall 6 (by decide))
          have e7 := f7 (hall 7 (by decide))
          have e10 := f10 (hall 10 (by decide))
          obtain ⟨gs, e8, _⟩ := f8 (hall 8 (by decide))
          subst e0 e1 e2 e3 e4 e5 e6 e7 e10 e8
          clear f0 f1 f2 f3 f4 f5 f6 f7 f8 f9 f10 f11 hO hO9 hW hP
          go_wp2
          go_roundw
          case rel =>
            refine ⟨k + 1, cs.setIfInBounds j t24, by omega, by go_num, ?_, ?_, ?_, ?_⟩
            · exact (HRW.out.grown hG (fun e => by have := HOB.out _ e; omega)).put j t24
            · exact HSTW.out.more hj9 (by rw [HEV.out]; exact hG) o9 (by rw [HEV.out]; exact b9) (by omega) (by rw [HFF.out j, if_pos ⟨HU.out, HZ.out⟩]) (fun i _ hne => by rw [HFF.out i, if_neg (by rintro ⟨_, e⟩; rw [HZ.out] at e; omega), List.append_nil])
            · exact (HRW2.out.grown hG (fun e => by have := HOB.out _ e; omega)).other (by omega)
            · exact (HBW.out.grown hG HBW.out.size (fun b hb => by have := HOB.out b hb; omega)).setCell (by simp) _
          case measure => simp [intOf]; omega
      · rw [hu] at c3
        go_wp2
        go_roundw
        case rel => exact ⟨k + 1, cs, by omega, by go_num, HR.out.alloc _, (HST.out.below ((Below.refl _ _).alloc (Nat.le_refl _) _) (Nat.le_refl _)).congr (fun i _ => by rw [hF i, hu, if_neg (by rintro ⟨e, _⟩; cases e), List.append_nil]), HR2.out.alloc _, hb.alloc hb.size _⟩
        case measure => simp [intOf]; omega
    · obtain rfl : k = n := by omega
      obtain ⟨A', N, C, rfl⟩ := hst.flv
      have r0 : wr.cell? ⟨w.heap.size + 1, 0, none⟩ = some (.slice (A' 0) (N 0) (C 0)) := hrow.cell 0
      have q0 : wr.cell? ⟨w.heap.size, 0, none⟩ = some (.slice none 0 0) := hres.cell 0
      have z0 := hres.frozen 0
      have r1 : wr.cell? ⟨w.heap.size + 1, 1, none⟩ = some (.slice (A' 1) (N 1) (C 1)) := hrow.cell 1
      have q1 : wr.cell? ⟨w.heap.size, 1, none⟩ = some (.slice none 0 0) := hres.cell 1
      have z1 := hres.frozen 1
      have r2 : wr.cell? ⟨w.heap.size + 1, 2, none⟩ = some (.slice (A' 2) (N 2) (C 2)) := hrow.cell 2
      have q2 : wr.cell? ⟨w.heap.size, 2, none⟩ = some (.slice none 0 0) := hres.cell 2
      have z2 := hres.frozen 2
      have r3 : wr.cell? ⟨w.heap.size + 1, 3, none⟩ = some (.slice (A' 3) (N 3) (C 3)) := hrow.cell 3
      have q3 : wr.cell? ⟨w.heap.size, 3, none⟩ = some (.slice none 0 0) := hres.cell 3
      have z3 := hres.frozen 3
      have r4 : wr.cell? ⟨w.heap.size + 1, 4, none⟩ = some (.slice (A' 4) (N 4) (C 4)) := hrow.cell 4
      have q4 : wr.cell? ⟨w.heap.size, 4, none⟩ = some (.slice none 0 0) := hres.cell 4
      have z4 := hres.frozen 4
      have r5 : wr.cell? ⟨w.heap.size + 1, 5, none⟩ = some (.slice (A' 5) (N 5) (C 5)) := hrow.cell 5
      have q5 : wr.cell? ⟨w.heap.size, 5, none⟩ = some (.slice none 0 0) := hres.cell 5
      have z5 := hres.frozen 5
      have r6 : wr.cell? ⟨w.heap.size + 1, 6, none⟩ = some (.slice (A' 6) (N 6) (C 6)) := hrow.cell 6
      have q6 : wr.cell? ⟨w.heap.size, 6, none⟩ = some (.slice none 0 0) := hres.cell 6
      have z6 := hres.frozen 6
      have r7 : wr.cell? ⟨w.heap.size + 1, 7, none⟩ = some (.slice (A' 7) (N 7) (C 7)) := hrow.cell 7
      have q7 : wr.cell? ⟨w.heap.size, 7, none⟩ = some (.slice none 0 0) := hres.cell 7
      have z7 := hres.frozen 7
      have r8 : wr.cell? ⟨w.heap.size + 1, 8, none⟩ = some (.slice (A' 8) (N 8) (C 8)) := hrow.cell 8
      have q8 : wr.cell? ⟨w.heap.size, 8, none⟩ = some (.slice none 0 0) := hres.cell 8
      have z8 := hres.frozen 8
      have HST := Lib.hid hst
      have hwl := hrow.lt
      have HRES := Lib.hid hres
      clear hst hrow hres
      go_wp2
      refine bodyPost_ret (v := .agg (flv A' N C)) ?_ rfl ⟨A', N, C, rfl, ?_, ?_⟩
      · simp [results, Try.results48, asAddr, flv]
        have hfin := (((((((((HRES.out.put 0 (.slice (A' 0) (N 0) (C 0))).put 1 (.slice (A' 1) (N 1) (C 1))).put 2 (.slice (A' 2) (N 2) (C 2))).put 3 (.slice (A' 3) (N 3) (C 3))).put 4 (.slice (A' 4) (N 4) (C 4))).put 5 (.slice (A' 5) (N 5) (C 5))).put 6 (.slice (A' 6) (N 6) (C 6))).put 7 (.slice (A' 7) (N 7) (C 7))).put 8 (.slice (A' 8) (N 8) (C 8)))
        rw [set9] at hfin
        have hld := run_loadVar_row (P := Try.prog) _ w.heap.size _ _ _ (0, 0) _ hfin Try.underlying62 rfl HS.out
        exact hld
      · refine ⟨HST.out.size, fun j hj => ?_, HST.out.sep⟩
        have := HST.out.own j hj
        refine OwnI.base ?_ (show w.heap.size ≤ w.heap.size + 2 by omega)
        iterate 9 refine OwnI.put ?_ (by omega)
        exact this
      · iterate 9 refine Below.setCell ?_ (by simp) _
        exact hb
end Go.Proofs.Ythihaclhlmpioaa
