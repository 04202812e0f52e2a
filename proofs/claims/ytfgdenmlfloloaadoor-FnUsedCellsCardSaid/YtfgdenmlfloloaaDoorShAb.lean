/- What the claim DUsedCells stands on, part 2 of 4: texts of one seat put together, with what the claim needs of them. No conditions. -/
import Derived.Test.YtfgdenmlfloloaaDoorShAa
namespace Go.Proofs.YtfgdenmlfloloaaDoor
open Go.RowKit
theorem upd_mono {L : Nat → Bool} {i k : Nat} (h : L k = true) : upd L i k = true := by
  unfold upd
  split
  · rfl
  · exact h
/-- what has been done, with all that it waits for -/
def Closed (ps : List (Nat × Nat)) (L : Nat → Bool) : Prop := ∀ p ∈ ps, L p.1 = true → L p.2 = true
theorem Closed.get {ps : List (Nat × Nat)} {L : Nat → Bool} {i j : Nat} (h : Closed ps L) (hp : (i, j) ∈ ps) (hi : L i = true) : L j = true := h _ hp hi
theorem Closed.step {ps : List (Nat × Nat)} {L : Nat → Bool} {i : Nat} (h : Closed ps L) (hd : ∀ p ∈ ps, p.1 = i → L p.2 = true) : Closed ps (upd L i) := by
  intro p hp hi
  by_cases e : p.1 = i
  · exact upd_mono (hd p hp e)
  · exact upd_mono (h p hp (upd_ne hi e))
theorem upd_all {L : Nat → Bool} {i n m : Nat} (h : L n = true → ∀ k, k < m → L k = true) (hne : n ≠ i) : upd L i n = true → ∀ k, k < m → upd L i k = true :=
  fun hn k hk => upd_mono (h (upd_ne hn hne) k hk)
theorem below_any {a w : World} (h : Below a.heap.size a w) (row : Option Nat) : a.grownBy w row := ⟨h.os, h.tape, h.output, h.size, fun i hi _ => h.block i hi⟩
theorem row_below {w w' : World} {base B n : Nat} {e : TypeId} {s : Nat} {v : Value} {xs : List Value} (h : w.ownsRow base e s v n xs) (hb : Below B w w') (hB : w.heap.size ≤ B) : w'.ownsRow base e s v n xs := by
  refine ⟨h.1, ?_⟩
  rcases h.2 with h0 | ⟨g, cap, cur, e, hb', hh, hr⟩
  · exact .inl h0
  · exact .inr ⟨g, cap, cur, e, hb', (hb.block g (Nat.lt_of_lt_of_le (Array.getElem?_eq_some_iff.1 hh).1 hB)).trans hh, hr⟩
theorem sep_new {v v' rv : Value} {N M : Nat} (hs : v'.ownBlock = v.ownBlock ∨ v'.ownBlock = some M) (e : v'.ownBlock = rv.ownBlock) (hr : ∀ k, rv.ownBlock = some k → N ≤ k ∧ k < M) (hv : ∀ k, v.ownBlock = some k → k < N) : rv.ownBlock = none := by
  cases h : rv.ownBlock with
  | none => rfl
  | some k =>
    exfalso
    have h1 := hr k h
    rw [h] at e
    rcases hs with hs | hs
    · have := hv k (hs.symm.trans e)
      omega
    · have : k = M := by rw [hs] at e; injection e with e; exact e.symm
      omega
/-- an append of numbers onto the call's own numbers -/
theorem app_stepI {w : World} {o : Oper} {a : Act} {K : Act → World → Prop} {Q : Exit → Act → World → Prop} (_hgd : o.guard = none) (s x : Operand)
    (ho : o.op = .call { callee := .builtin .append, args := #[s, x], argTypes := #[24, 24] })
    (base : Nat) (v : Value) (xs : List Int) (hs : a.eval s = v) (hown : OwnI w base v xs) (A : Option Addr) (m c B : Nat) (ys : List Int) (hx : a.eval x = .slice A m c) (hr : IS w B A m ys)
    (hn : xs.length + m ≤ 1099511627776) (hbase : base ≤ w.heap.size)
    (h : ∀ v' w', OwnI w' base v' (xs ++ ys) → w.grownBy w' v.ownBlock → (v'.ownBlock = v.ownBlock ∨ v'.ownBlock = some w.heap.size) → K (a.put o.dst v') w') : Oper.wp Tryd.prog o a w K Q := by
  obtain ⟨v', w', hrun, h2, h3, h4⟩ := run_appendI w base v xs hown A m c B ys hr hn hbase o.type
  unfold Oper.wp execOp
  simp only [ho, resolve, invoke, builtin, Sem.run_bind, Sem.run_pure, Result.andThen_ok, List.map_toArray, List.map_cons, List.map_nil, hs, hx, hrun]
  exact h v' w' h2 h3 h4
theorem info_cell : (Tryd.prog.info? 43).map (fun i => (i.zero, i.size, i.bytes)) = some (some (.agg #[.bool false, .int .i64 0, .slice none 0 0]), 3, 40) := by kernel_rfl
/-- an append of one cell onto the call's own cells -/
theorem app_stepC {w : World} {o : Oper} {a : Act} {K : Act → World → Prop} {Q : Exit → Act → World → Prop} (_hgd : o.guard = none) (s x : Operand)
    (ho : o.op = .call { callee := .builtin .append, args := #[s, x], argTypes := #[23, 23] })
    (base : Nat) (v : Value) (n : Nat) (vs : List Value) (hs : a.eval s = v) (hown : w.ownsRow base 43 3 v n vs) (gs : Nat) (u : Bool) (d : Int) (A8 : Option Addr) (m8 c8 : Nat) (hx : a.eval x = .slice (some ⟨gs, 0, none⟩) 1 1)
    (hr : Rw w gs 43 #[.bool u, .int .i64 d, .slice A8 m8 c8]) (hn : n + 1 ≤ 1099511627776) (hbase : base ≤ w.heap.size)
    (h : ∀ v' w' A9 c9, v' = .slice A9 (n + 1) c9 → w'.ownsRow base 43 3 v' (n + 1) (vs ++ [.bool u, .int .i64 d, .slice A8 m8 c8]) → w.grownBy w' v.ownBlock → (v'.ownBlock = v.ownBlock ∨ v'.ownBlock = some w.heap.size) → K (a.put o.dst v') w') : Oper.wp Tryd.prog o a w K Q := by
  obtain ⟨i0, hi0, hz0, hz1, hz2⟩ := info_parts info_cell
  obtain ⟨v', w', hrun, h2, h3, _, h5⟩ := run_append_own_at (P := Tryd.prog) w base 23 o.type 43 i0 _ 3 40 Tryd.underlying23 hi0 hz0 hz1 hz2 rfl (by omega) v n vs hown ⟨gs, 0, none⟩ 1 1 [.bool u, .int .i64 d, .slice A8 m8 c8]
      (by simp) (fun j y hj => by
        rw [add_lit, Nat.zero_add, hr.cell j]
        match j, hj with
        | 0, hj => simpa using hj
        | 1, hj => simpa using hj
        | 2, hj => simpa using hj
        | j + 3, hj => simp at hj) (by intro y hy; simp at hy; rcases hy with rfl | rfl | rfl <;> rfl) (by unfold maxLen; omega) (by omega) hbase
  unfold Oper.wp execOp
  simp only [ho, resolve, invoke, builtin, Sem.run_bind, Sem.run_pure, Result.andThen_ok, List.map_toArray, List.map_cons, List.map_nil, hs, hx, hrun]
  rcases h2.2 with ⟨e, h0⟩ | ⟨g, cap, cur, e, _⟩
  · omega
  · exact h v' w' (some ⟨g, 0, none⟩) cap e h2 h3 h5
/-- while a heap is copied: what is copied so far, in the box b, and the other boxes -/
structure CpSt (w wr : World) (b : Nat) (hb rb : Array Value) (vc vr : Value) (rvs : List Value) (h : Hp) : Prop where
  own : OwnHx wr (w.heap.size + 2) vc vr rvs h
  apart : Apart (some b) (vc :: vr :: rvs)
  box : Rw wr b 26 #[vc, vr]
  arg : Rw wr w.heap.size 26 hb
  res : Rw wr (w.heap.size + 1) 26 rb
  bel : Below w.heap.size w wr
  lo : w.heap.size + 2 ≤ b
theorem CpSt.next {w wr w1 : World} {b k n m' c9 c8 : Nat} {hb rb : Array Value} {vc vr : Value} {rvs : List Value} {h : Hp} {cl : Cl} {A9 A8 : Option Addr} (S : CpSt w wr b hb rb vc vr rvs ⟨h.cs.take k, h.rt⟩) (hlc : h.cs.length = n) (hlt : k < n) (hcl : h.cs[k]? = some cl)
    (hG : wr.grownBy w1 vc.ownBlock) (o9 : w1.ownsRow (w.heap.size + 2) 43 3 (.slice A9 (k + 1) c9) (k + 1) (flatC (h.cs.take k) rvs ++ [.bool cl.u, .int .i64 cl.d, .slice A8 m' c8]))
    (hsep : (Value.slice A9 (k + 1) c9).ownBlock = (Value.slice A8 m' c8).ownBlock → (Value.slice A8 m' c8).ownBlock = none)
    (q : (Value.slice A9 (k + 1) c9).ownBlock = vc.ownBlock ∨ ∃ b', (Value.slice A9 (k + 1) c9).ownBlock = some b' ∧ wr.heap.size ≤ b')
    (o8 : OwnI (w1.setCell ⟨b, 0, none⟩ (.slice A9 (k + 1) c9)) wr.heap.size (.slice A8 m' c8) cl.r) :
    CpSt w (w1.setCell ⟨b, 0, none⟩ (.slice A9 (k + 1) c9)) b hb rb (.slice A9 (k + 1) c9) vr (rvs ++ [.slice A8 m' c8]) ⟨h.cs.take (k + 1), h.rt⟩ := by
  obtain ⟨v9, hv9⟩ : ∃ v9, Value.slice A9 (k + 1) c9 = v9 := ⟨_, rfl⟩
  obtain ⟨v8, hv8⟩ : ∃ v8, Value.slice A8 m' c8 = v8 := ⟨_, rfl⟩
  rw [hv9] at o9 hsep q o8 ⊢
  rw [hv8] at o9 hsep o8 ⊢
  have hbl := S.box.lt
  have hlo := S.lo
  have hsp := S.own.sep
  unfold Sep at hsp
  simp only [List.pairwise_cons, List.mem_cons] at hsp
  obtain ⟨sp1, sp2, sp3⟩ := hsp
  have hvc : ∀ kk, vc.ownBlock = some kk → w.heap.size + 2 ≤ kk ∧ kk < wr.heap.size := fun kk hk => S.own.blocks (by simp) hk
  have hvr : ∀ kk, vr.ownBlock = some kk → kk < wr.heap.size := fun kk hk => (S.own.blocks (by simp) hk).2
  have hrv : ∀ v ∈ rvs, ∀ kk, v.ownBlock = some kk → kk < wr.heap.size := fun v hv kk hk => (S.own.blocks (by simp [hv]) hk).2
  have h8 : ∀ kk, v8.ownBlock = some kk → wr.heap.size ≤ kk := fun kk hk => (World.ownsRow.lt o8 kk hk).1
  have hvcb : vc.ownBlock ≠ some b := by
    rcases S.apart vc (by simp) with e | e
    · rw [e]; simp
    · exact e
  have swap : ∀ v : Value, (vc.ownBlock = none ∨ vc.ownBlock ≠ v.ownBlock) → v.ownBlock = none ∨ v.ownBlock ≠ vc.ownBlock := fun v hv => by
    rcases hv with e | e
    · cases e' : v.ownBlock with
      | none => exact .inl rfl
      | some kk => right; rw [e]; simp
    · exact .inr fun e' => e e'.symm
  have h9b : v9.ownBlock = none ∨ v9.ownBlock ≠ some b := by
    right
    rcases q with e | ⟨b', e, hb'⟩
    · rw [e]; exact hvcb
    · rw [e]; intro e'; injection e' with e'; omega
  have h9old : ∀ v : Value, (vc.ownBlock = none ∨ vc.ownBlock ≠ v.ownBlock) → (∀ kk, v.ownBlock = some kk → kk < wr.heap.size) → v9.ownBlock = none ∨ v9.ownBlock ≠ v.ownBlock := fun v hv hlt' => by
    rcases q with e | ⟨b', e, hb'⟩
    · rw [e]; exact hv
    · right
      rw [e]
      intro e'
      have := hlt' b' e'.symm
      omega
  have hput : ∀ W : World, W.grownBy (W.setCell ⟨b, 0, none⟩ v9) (some b) := fun W => only_put (World.grownBy.refl _ _) 0 v9
  have htk : (h.cs.take (k + 1)).length = k + 1 := by rw [List.length_take]; omega
  have htk0 : (h.cs.take k).length = k := by rw [List.length_take]; omega
  have hrl : rvs.length = k := by have := S.own.len; simp only [htk0] at this; exact this
  have htake : h.cs.take (k + 1) = h.cs.take k ++ [cl] := by rw [List.take_add_one, hcl]; rfl
  refine ⟨⟨by simp only [htk, List.length_append, List.length_singleton, hrl], ?_, ?_, ?_, ?_⟩, ?_, ?_, ?_, ?_, ?_, hlo⟩
  · simp only [htk]
    have e : flatC (h.cs.take (k + 1)) (rvs ++ [v8]) = flatC (h.cs.take k) rvs ++ [.bool cl.u, .int .i64 cl.d, v8] := by
      rw [htake, flatC_append _ _ _ _ (by rw [hrl, htk0])]
      simp [flatC]
    rw [e]
    exact World.ownsRow.kept o9 (hput w1) h9b
  · intro j c' v hc' hv
    simp only [htake] at hc'
    rcases Nat.lt_or_ge j k with hj | hj
    · rw [List.getElem?_append_left (by omega)] at hc' hv
      have hmem := List.mem_of_getElem? hv
      exact ((S.own.refs j c' v hc' hv).far hG (swap v (sp1 v (.inr hmem)))).far (hput w1) (S.apart v (by simp [hmem]))
    · rw [List.getElem?_append_right (by omega), htk0] at hc'
      rw [List.getElem?_append_right (by omega), hrl] at hv
      have hjk : j - k = 0 := by
        rcases Nat.eq_zero_or_pos (j - k) with e | e
        · exact e
        · rw [List.getElem?_eq_none (by simp; omega)] at hv; cases hv
      rw [hjk] at hc' hv
      simp at hc' hv
      subst hc' hv
      exact o8.base (by omega)
  · exact (S.own.roots.far hG (swap vr (sp1 vr (.inl rfl)))).far (hput w1) (S.apart vr (by simp))
  · unfold Sep
    simp only [List.pairwise_cons, List.mem_cons, List.mem_append, List.pairwise_append, List.not_mem_nil]
    refine ⟨fun v hv => ?_, fun v hv => ?_, sp3, ⟨by simp, List.Pairwise.nil⟩, fun a ha v hv => ?_⟩
    · rcases hv with rfl | hv | hv | hv
      · exact h9old v (sp1 v (.inl rfl)) hvr
      · exact h9old v (sp1 v (.inr hv)) (hrv v hv)
      · subst hv
        cases e : v9.ownBlock with
        | none => exact .inl rfl
        | some kk =>
          right
          intro e'
          have := hsep (e.trans e')
          rw [this] at e'
          cases e'
      · cases hv
    · rcases hv with hv | hv | hv
      · exact sp2 v hv
      · subst hv
        cases e : vr.ownBlock with
        | none => exact .inl rfl
        | some kk => right; intro e'; have := hvr kk e; have := h8 kk e'.symm; omega
      · cases hv
    · rcases hv with hv | hv
      · subst hv
        cases e : a.ownBlock with
        | none => exact .inl rfl
        | some kk => right; intro e'; have := hrv a ha kk e; have := h8 kk e'.symm; omega
      · cases hv
  · intro v hv
    simp only [List.mem_cons, List.mem_append, List.not_mem_nil, or_false] at hv
    rcases hv with rfl | rfl | hv | rfl
    · exact h9b
    · exact S.apart v (by simp)
    · exact S.apart v (by simp [hv])
    · cases e : v.ownBlock with
      | none => exact .inl rfl
      | some kk => right; intro e'; injection e' with e'; have := h8 kk e; omega
  · exact (Rw.far S.box hG (fun e => hvcb e.symm)).put 0 v9
  · exact Rw.other (Rw.far S.arg hG (fun e => by have := hvc _ e.symm; omega)) (by omega) _
  · exact Rw.other (Rw.far S.res hG (fun e => by have := hvc _ e.symm; omega)) (by omega) _
  · exact (S.bel.grown hG S.bel.size (fun kk hk => by have := hvc kk hk; omega)).setCell (p := ⟨b, 0, none⟩) (by simp; omega) _
set_option maxRecDepth 100000 in
set_option maxHeartbeats 8000000 in
theorem l7Copy_any (A R : Option Addr) (n c m d : Nat) (h : Hp) (w : World) (hs : HS w w.heap.size A n R m h) (hn : n ≤ 1000000) (hm : m ≤ 1000000) (hb : ∀ cl ∈ h.cs, cl.r.length ≤ 1000000) :
    Calls Tryd.prog 66 #[heapV A n c R m d] w (GaveH w h) := by
  have hlc := hs.cells.1
  have hlr := hs.roots.1
  have HB := Lib.hid hb
  clear hb
  have o0 := own_noneI ((w.alloc (.cells #[.slice A n c, .slice R m d] 26)).alloc (.cells #[.slice none 0 0, .slice none 0 0] 26)) (w.heap.size + 2) (by simp)
  have b0 : Below w.heap.size w (((w.alloc (.cells #[.slice A n c, .slice R m d] 26)).alloc (.cells #[.slice none 0 0, .slice none 0 0] 26)).alloc (.cells #[] 3)) := (((Below.refl w.heap.size w).alloc (Nat.le_refl _) _).alloc (by simp) _).alloc (by simp; omega) _
  have r0 := hs.roots.below b0
  have a0 := ((Rw.new w 26 #[.slice A n c, .slice R m d]).alloc (.cells #[.slice none 0 0, .slice none 0 0] 26)).alloc (.cells #[] 3)
  have a1 := (Rw.new (w.alloc (.cells #[.slice A n c, .slice R m d] 26)) 26 #[.slice none 0 0, .slice none 0 0]).alloc (.cells #[] 3)
  simp only [World.size_alloc] at o0 a1
  go_enter Tryd.func66, Tryd.ntmps66
  go_wp2_with (at_builtin; refine wpList_appendI rfl (.tmp 5) (.tmp 7) rfl (w.heap.size + 2) _ [] rfl o0 R m d w.heap.size h.rt rfl r0 (by simp <;> omega) (by simp) ?_; intro v5 w5 o5 g5 s5; rw [List.nil_append] at o5; obtain ⟨A5, c5, e5, f5⟩ := o5.form; rw [hlr] at e5; subst e5)
  have hrow5 : ∀ kk, (Value.slice (some ⟨w.heap.size + 1 + 1, 0, none⟩) 0 0).ownBlock = some kk → w.heap.size + 2 ≤ kk := fun kk hk => (World.ownsRow.lt o0 kk hk).1
  have st : CpSt w (w5.alloc (.cells #[.slice none 0 0, .slice A5 m c5] 26)) w5.heap.size #[.slice A n c, .slice R m d] #[.slice none 0 0, .slice none 0 0] (.slice none 0 0) (.slice A5 m c5) [] ⟨[], h.rt⟩ := by
    have hsz := g5.size
    simp at hsz
    refine ⟨⟨rfl, World.ownsRow_nil _ _ _ _, fun k c v hc => by simp at hc, World.ownsRow.alloc o5 _, by simp [Sep, Value.ownBlock]⟩, ?_, Rw.new _ _ _, (Rw.far a0 g5 (fun e => by have := hrow5 _ e.symm; omega)).alloc _, (Rw.far a1 g5 (fun e => by have := hrow5 _ e.symm; omega)).alloc _, ?_, by omega⟩
    · intro v hv
      simp at hv
      rcases hv with rfl | rfl
      · exact .inl rfl
      · cases e : (Value.slice A5 m c5).ownBlock with
        | none => exact .inl rfl
        | some kk =>
          right
          have := (World.ownsRow.lt o5 kk e).2
          intro e'
          injection e' with e'
          omega
    · exact (b0.grown g5 (by simp; omega) (fun kk hk => by have := hrow5 kk hk; omega)).alloc (by omega) _
  clear o0 b0 r0 a0 a1 o5 g5 s5 f5 hrow5
  go_loopw [4] (fun i wr => ∃ (k : Nat) (Av : Option Addr) (cv : Nat) (rvs : List Value), k ≤ n ∧ i = .int .i64 k ∧ CpSt w wr w5.heap.size #[.slice A n c, .slice R m d] #[.slice none 0 0, .slice none 0 0] (.slice Av k cv) (.slice A5 m c5) rvs ⟨h.cs.take k, h.rt⟩) (fun i _ => n - (intOf i).toNat)
  case atStart => exact ⟨0, none, 0, [], Nat.zero_le _, rfl, st⟩
  case round =>
    clear st
    obtain ⟨k, Av, cv, rvs, hk, rfl, S⟩ := hrel
    have z0 : wr.cell? ⟨w.heap.size, 0, none⟩ = some (.slice A n c) := S.arg.cell 0
    by_cases hlt : k < n
    · obtain ⟨g, o, cl, A', m', cc, e1, hg, hcl, d1, d2, d3, hmc, hi⟩ := hs.cells.at_ hlt
      subst e1
      have hlt' : (k : Int) < n := by omega
      have hl3 := hi.1
      have hm3 : m' ≤ 1000000 := by have := HB.out cl (List.mem_of_getElem? hcl); omega
      have HCL := Lib.hid hcl
      have htk : (h.cs.take k).length = k := by rw [List.length_take]; omega
      have hrow := S.own.row
      simp only [htk] at hrow
      have HROW := Lib.hid hrow
      have hbase : w.heap.size + 2 ≤ wr.heap.size := by have := S.lo; have := S.box.lt; omega
      have hvb : ∀ kk, (Value.slice Av k cv).ownBlock = some kk → w.heap.size + 2 ≤ kk ∧ kk < wr.heap.size := fun kk hk => World.ownsRow.lt hrow kk hk
      have hvx : (Value.slice Av k cv).ownBlock ≠ some w5.heap.size := by
        rcases S.apart (Value.slice Av k cv) (by simp) with e | e
        · rw [e]; simp
        · exact e
      have HI := Lib.hid ((hi.below S.bel).more S.bel.size)
      have HC := Lib.hid (fun ww (hG : wr.grownBy ww (Value.slice Av k cv).ownBlock) => (show ww.cell? ⟨w5.heap.size, 0, none⟩ = some (.slice Av k cv) ∧ ww.cell? ⟨w.heap.size, 0, none⟩ = some (.slice (some ⟨g, o, none⟩) n c) ∧ ww.cell? ⟨g, o + k * 3, none⟩ = some (.bool cl.u) ∧ ww.cell? ⟨g, o + k * 3 + 1, none⟩ = some (.int .i64 cl.d) ∧ ww.cell? ⟨g, o + k * 3 + 2, none⟩ = some (.slice A' m' cc) from by
        have hgl : g < wr.heap.size := Nat.lt_of_lt_of_le hg S.bel.size
        have hgn : some g ≠ (Value.slice Av k cv).ownBlock := fun e => by have := hvb g e.symm; omega
        have t := fun i => (World.cell?_of_block (hG.block g hgl hgn) : ww.cell? ⟨g, i, none⟩ = wr.cell? ⟨g, i, none⟩)
        refine ⟨(Rw.far S.box hG (fun e => hvx e.symm)).cell 0, (Rw.far S.arg hG (fun e => by have := hvb _ e.symm; omega)).cell 0, ?_, ?_, ?_⟩
        · exact (t _).trans ((S.bel.cell (p := ⟨g, o + k * 3, none⟩) hg).trans d1)
        · exact (t _).trans ((S.bel.cell (p := ⟨g, o + k * 3 + 1, none⟩) hg).trans d2)
        · exact (t _).trans ((S.bel.cell (p := ⟨g, o + k * 3 + 2, none⟩) hg).trans d3)))
      have HFZ := Lib.hid (fun ww (hG : wr.grownBy ww (Value.slice Av k cv).ownBlock) => (Rw.far S.box hG (fun e => hvx e.symm)).frozen 0)
      have APART := Lib.hid (fun (v : Value) (hv : ∀ kk, v.ownBlock = some kk → wr.heap.size ≤ kk) => (show v.ownBlock = none ∨ v.ownBlock ≠ (Value.slice Av k cv).ownBlock from by
        cases e : v.ownBlock with
        | none => exact .inl rfl
        | some kk => right; intro e'; have := hv kk e; have := hvb kk e'.symm; omega))
      have APB := Lib.hid (fun (v : Value) (hv : ∀ kk, v.ownBlock = some kk → wr.heap.size ≤ kk) => (show v.ownBlock = none ∨ v.ownBlock ≠ some w5.heap.size from by
        cases e : v.ownBlock with
        | none => exact .inl rfl
        | some kk => right; intro e'; injection e' with e'; have := hv kk e; have := S.box.lt; omega))
      have HS := Lib.hid S
      clear hcl hi d1 d2 d3 hvb hvx hrow S
      go_wp2_with fail
      clear z0
      refine wp_region_inv (by kernel_rfl) (by kernel_rfl) (fun L ac ww => ∃ t17 t18 t19 t20 t21 t22 t23 t24 t25 t26 t27 t28 t29 t30 t31 t32 t33 t34 t35 t36 t37 t38 t39 t40 t41 t42 : Value, ac = { tmps := #[(heapV (some ⟨g, o, none⟩) n c R m d), (.pointer (some ⟨w.heap.size, 0, none⟩)), (.pointer (some ⟨w.heap.size + 1, 0, none⟩)), (.pointer (some ⟨w5.heap.size, 0, none⟩)), (.int .i64 k), (.slice (some ⟨w.heap.size + 1 + 1, 0, none⟩) 0 0), (.pointer (some ⟨w.heap.size, 1, none⟩)), (.slice R m d), (.slice A5 m c5), (.agg #[.slice none 0 0, .slice A5 m c5]), (.int .i64 k), (.pointer (some ⟨w.heap.size, 0, none⟩)), (.slice (some ⟨g, o, none⟩) n c), (.int .i64 n), (.bool true), u15, u16, t17, t18, t19, t20, t21, t22, t23, t24, t25, t26, t27, t28, t29, t30, t31, t32, t33, t34, t35, t36, t37, t38, t39, t40, t41, t42, undef], defers := [] } ∧ (L 26 = true → ∀ i, i < 26 → L i = true) ∧ (L 26 = false → wr.grownBy ww (Value.slice Av k cv).ownBlock) ∧ (L 24 = false → Below wr.heap.size wr ww) ∧ (L 21 = true → L 14 = true) ∧ (L 23 = true → L 21 = true) ∧ (L 24 = true → L 23 = true) ∧ (L 22 = true → L 21 = true) ∧ (L 0 = true → t17 = (.pointer (some ⟨w5.heap.size, 0, none⟩))) ∧ (L 1 = true → t18 = (.slice Av k cv)) ∧ (L 2 = true → t19 = (.pointer (some ⟨w.heap.size, 0, none⟩))) ∧ (L 3 = true → t20 = (.slice (some ⟨g, o, none⟩) n c)) ∧ (L 4 = true → t21 = (.int .i64 k)) ∧ (L 5 = true → t22 = (.pointer (some ⟨g, o + k * 3, none⟩))) ∧ (L 6 = true → t23 = (.pointer (some ⟨g, o + k * 3, none⟩))) ∧ (L 7 = true → t24 = (.bool cl.u)) ∧ (L 8 = true → t25 = (.pointer (some ⟨w.heap.size, 0, none⟩))) ∧ (L 9 = true → t26 = (.slice (some ⟨g, o, none⟩) n c)) ∧ (L 10 = true → t27 = (.int .i64 k)) ∧ (L 11 = true → t28 = (.pointer (some ⟨g, o + k * 3, none⟩))) ∧ (L 12 = true → t29 = (.pointer (some ⟨g, o + k * 3 + 1, none⟩))) ∧ (L 13 = true → t30 = (.int .i64 cl.d)) ∧ (L 14 = true → ∃ gs, t31 = .slice (some ⟨gs, 0, none⟩) 0 0 ∧ (L 21 = false → OwnI ww wr.heap.size t31 [])) ∧ (L 15 = true → t32 = (.pointer (some ⟨w.heap.size, 0, none⟩))) ∧ (L 16 = true → t33 = (.slice (some ⟨g, o, none⟩) n c)) ∧ (L 17 = true → t34 = (.int .i64 k)) ∧ (L 18 = true → t35 = (.pointer (some ⟨g, o + k * 3, none⟩))) ∧ (L 19 = true → t36 = (.pointer (some ⟨g, o + k * 3 + 2, none⟩))) ∧ (L 20 = true → t37 = (.slice A' m' cc)) ∧ (L 21 = true → ∃ A8 c8, t38 = .slice A8 m' c8 ∧ OwnI ww wr.heap.size t38 cl.r) ∧ (L 22 = true → t39 = .agg #[.bool cl.u, .int .i64 cl.d, t38]) ∧ (L 23 = true → ∃ gs, t40 = .slice (some ⟨gs, 0, none⟩) 1 1 ∧ (L 24 = false → Rw ww gs 43 #[.bool cl.u, .int .i64 cl.d, t38])) ∧ (L 24 = true → ∃ A9 c9, t41 = .slice A9 (k + 1) c9 ∧ (t41.ownBlock = (Value.slice Av k cv).ownBlock ∨ ∃ b', t41.ownBlock = some b' ∧ wr.heap.size ≤ b') ∧ (L 26 = false → ww.ownsRow (w.heap.size + 2) 43 3 t41 (k + 1) (flatC (h.cs.take k) rvs ++ [.bool cl.u, .int .i64 cl.d, t38]) ∧ (t41.ownBlock = t38.ownBlock → t38.ownBlock = none))) ∧ (L 25 = true → t42 = (.pointer (some ⟨w5.heap.size, 0, none⟩))) ∧ (L 26 = true → ∃ w1, ww = w1.setCell ⟨w5.heap.size, 0, none⟩ t41 ∧ wr.grownBy w1 (Value.slice Av k cv).ownBlock ∧ w1.ownsRow (w.heap.size + 2) 43 3 t41 (k + 1) (flatC (h.cs.take k) rvs ++ [.bool cl.u, .int .i64 cl.d, t38]) ∧ (t41.ownBlock = t38.ownBlock → t38.ownBlock = none))) ?h0 ?hstep ?hdone
      case h0 => exact ⟨_, _, _, _, _, _, _, _, _, _, _, _, _, _, _, _, _, _, _, _, _, _, _, _, _, _, rfl, (fun h => absurd h Bool.false_ne_true), fun _ => below_any ((Below.refl _ _).drew) _, fun _ => (Below.refl _ _).drew, (fun h => absurd h Bool.false_ne_true), (fun h => absurd h Bool.false_ne_true), (fun h => absurd h Bool.false_ne_true), (fun h => absurd h Bool.false_ne_true), (fun h => absurd h Bool.false_ne_true), (fun h => absurd h Bool.false_ne_true), (fun h => absurd h Bool.false_ne_true), (fun h => absurd h Bool.false_ne_true), (fun h => absurd h Bool.false_ne_true), (fun h => absurd h Bool.false_ne_true), (fun h => absurd h Bool.false_ne_true), (fun h => absurd h Bool.false_ne_true), (fun h => absurd h Bool.false_ne_true), (fun h => absurd h Bool.false_ne_true), (fun h => absurd h Bool.false_ne_true), (fun h => absurd h Bool.false_ne_true), (fun h => absurd h Bool.false_ne_true), (fun h => absurd h Bool.false_ne_true), (fun h => absurd h Bool.false_ne_true), (fun h => absurd h Bool.false_ne_true), (fun h => absurd h Bool.false_ne_true), (fun h => absurd h Bool.false_ne_true), (fun h => absurd h Bool.false_ne_true), (fun h => absurd h Bool.false_ne_true), (fun h => absurd h Bool.false_ne_true), (fun h => absurd h Bool.false_ne_true), (fun h => absurd h Bool.false_ne_true), (fun h => absurd h Bool.false_ne_true), (fun h => absurd h Bool.false_ne_true), (fun h => absurd h Bool.false_ne_true), (fun h => absurd h Bool.false_ne_true)⟩
      case hstep =>
        rintro L ac ww i o ho hL hd ⟨t17, t18, t19, t20, t21, t22, t23, t24, t25, t26, t27, t28, t29, t30, t31, t32, t33, t34, t35, t36, t37, t38, t39, t40, t41, t42, rfl, I0, I1, I2, I3, I4, I5, I6, f0, f1, f2, f3, f4, f5, f6, f7, f8, f9, f10, f11, f12, f13, f14, f15, f16, f17, f18, f19, f20, f21, f22, f23, f24, f25, f26⟩
        have hi : i < 27 := (Array.getElem?_eq_some_iff.1 ho).1
        obtain rfl | rfl | rfl | rfl | rfl | rfl | rfl | rfl | rfl | rfl | rfl | rfl | rfl | rfl | rfl | rfl | rfl | rfl | rfl | rfl | rfl | rfl | rfl | rfl | rfl | rfl | rfl : i = 0 ∨ i = 1 ∨ i = 2 ∨ i = 3 ∨ i = 4 ∨ i = 5 ∨ i = 6 ∨ i = 7 ∨ i = 8 ∨ i = 9 ∨ i = 10 ∨ i = 11 ∨ i = 12 ∨ i = 13 ∨ i = 14 ∨ i = 15 ∨ i = 16 ∨ i = 17 ∨ i = 18 ∨ i = 19 ∨ i = 20 ∨ i = 21 ∨ i = 22 ∨ i = 23 ∨ i = 24 ∨ i = 25 ∨ i = 26 := by omega
        · obtain rfl := Option.some.inj ho
          have h26 : L 26 = false := by
            cases hh : L 26
            · rfl
            · exact absurd ((I0 hh 0 (by omega)).symm.trans hL) (by decide)
          refine wpOp_step rfl (fun K' hK => ?_)
          go_simp
          refine hK _ _ ?_
          exact ⟨_, _, _, _, _, _, _, _, _, _, _, _, _, _, _, _, _, _, _, _, _, _, _, _, _, _, rfl, (upd_all I0 (by decide)), (fun h => I1 (by rw [upd_other (by decide)] at h; exact h)), (fun h => I2 (by rw [upd_other (by decide)] at h; exact h)), (fun h => upd_mono (I3 (upd_ne h (by decide)))), (fun h => upd_mono (I4 (upd_ne h (by decide)))), (fun h => upd_mono (I5 (upd_ne h (by decide)))), (fun h => upd_mono (I6 (upd_ne h (by decide)))), (fun _ => by first | rfl | simp), (kp f1), (kp f2), (kp f3), (kp f4), (kp f5), (kp f6), (kp f7), (kp f8), (kp f9), (kp f10), (kp f11), (kp f12), (kp f13), (fun h => by
              obtain ⟨gs, e1, e2⟩ := f14 (upd_ne h (by decide))
              exact ⟨gs, e1, fun h21 => e2 (by rw [upd_other (by decide)] at h21; exact h21)⟩), (kp f15), (kp f16), (kp f17), (kp f18), (kp f19), (kp f20), (kp f21), (kp f22), (fun h => by
              obtain ⟨gs, e1, e2⟩ := f23 (upd_ne h (by decide))
              exact ⟨gs, e1, fun h24 => e2 (by rw [upd_other (by decide)] at h24; exact h24)⟩), (fun h => by
              obtain ⟨A9, c9, e1, e2, e3⟩ := f24 (upd_ne h (by decide))
              exact ⟨A9, c9, e1, e2, fun h26 => e3 (by rw [upd_other (by decide)] at h26; exact h26)⟩), (kp f25), (kp f26)⟩
        · obtain rfl := Option.some.inj ho
          have g0 := f0 (hd ⟨0, .data⟩ (by simp) rfl)
          subst g0
          have h26 : L 26 = false := by
            cases hh : L 26
            · rfl
            · exact absurd ((I0 hh 1 (by omega)).symm.trans hL) (by decide)
          obtain ⟨k0, k1, k2, k3, k4⟩ := HC.out ww (I1 h26)
          refine wpOp_step rfl (fun K' hK => ?_)
          go_simp
          refine hK _ _ ?_
          exact ⟨_, _, _, _, _, _, _, _, _, _, _, _, _, _, _, _, _, _, _, _, _, _, _, _, _, _, rfl, (upd_all I0 (by decide)), (fun h => I1 (by rw [upd_other (by decide)] at h; exact h)), (fun h => I2 (by rw [upd_other (by decide)] at h; exact h)), (fun h => upd_mono (I3 (upd_ne h (by decide)))), (fun h => upd_mono (I4 (upd_ne h (by decide)))), (fun h => upd_mono (I5 (upd_ne h (by decide)))), (fun h => upd_mono (I6 (upd_ne h (by decide)))), (kp f0), (fun _ => rfl), (kp f2), (kp f3), (kp f4), (kp f5), (kp f6), (kp f7), (kp f8), (kp f9), (kp f10), (kp f11), (kp f12), (kp f13), (fun h => by
              obtain ⟨gs, e1, e2⟩ := f14 (upd_ne h (by decide))
              exact ⟨gs, e1, fun h21 => e2 (by rw [upd_other (by decide)] at h21; exact h21)⟩), (kp f15), (kp f16), (kp f17), (kp f18), (kp f19), (kp f20), (kp f21), (kp f22), (fun h => by
              obtain ⟨gs, e1, e2⟩ := f23 (upd_ne h (by decide))
              exact ⟨gs, e1, fun h24 => e2 (by rw [upd_other (by decide)] at h24; exact h24)⟩), (fun h => by
              obtain ⟨A9, c9, e1, e2, e3⟩ := f24 (upd_ne h (by decide))
              exact ⟨A9, c9, e1, e2, fun h26 => e3 (by rw [upd_other (by decide)] at h26; exact h26)⟩), (kp f25), (kp f26)⟩
        · obtain rfl := Option.some.inj ho
          have h26 : L 26 = false := by
            cases hh : L 26
            · rfl
            · exact absurd ((I0 hh 2 (by omega)).symm.trans hL) (by decide)
          refine wpOp_step rfl (fun K' hK => ?_)
          go_simp
          refine hK _ _ ?_
          exact ⟨_, _, _, _, _, _, _, _, _, _, _, _, _, _, _, _, _, _, _, _, _, _, _, _, _, _, rfl, (upd_all I0 (by decide)), (fun h => I1 (by rw [upd_other (by decide)] at h; exact h)), (fun h => I2 (by rw [upd_other (by decide)] at h; exact h)), (fun h => upd_mono (I3 (upd_ne h (by decide)))), (fun h => upd_mono (I4 (upd_ne h (by decide)))), (fun h => upd_mono (I5 (upd_ne h (by decide)))), (fun h => upd_mono (I6 (upd_ne h (by decide)))), (kp f0), (kp f1), (fun _ => by first | rfl | simp), (kp f3), (kp f4), (kp f5), (kp f6), (kp f7), (kp f8), (kp f9), (kp f10), (kp f11), (kp f12), (kp f13), (fun h => by
              obtain ⟨gs, e1, e2⟩ := f14 (upd_ne h (by decide))
              exact ⟨gs, e1, fun h21 => e2 (by rw [upd_other (by decide)] at h21; exact h21)⟩), (kp f15), (kp f16), (kp f17), (kp f18), (kp f19), (kp f20), (kp f21), (kp f22), (fun h => by
              obtain ⟨gs, e1, e2⟩ := f23 (upd_ne h (by decide))
              exact ⟨gs, e1, fun h24 => e2 (by rw [upd_other (by decide)] at h24; exact h24)⟩), (fun h => by
              obtain ⟨A9, c9, e1, e2, e3⟩ := f24 (upd_ne h (by decide))
              exact ⟨A9, c9, e1, e2, fun h26 => e3 (by rw [upd_other (by decide)] at h26; exact h26)⟩), (kp f25), (kp f26)⟩
        · obtain rfl := Option.some.inj ho
          have g2 := f2 (hd ⟨2, .data⟩ (by simp) rfl)
          subst g2
          have h26 : L 26 = false := by
            cases hh : L 26
            · rfl
            · exact absurd ((I0 hh 3 (by omega)).symm.trans hL) (by decide)
          obtain ⟨k0, k1, k2, k3, k4⟩ := HC.out ww (I1 h26)
          refine wpOp_step rfl (fun K' hK => ?_)
          go_simp
          refine hK _ _ ?_
          exact ⟨_, _, _, _, _, _, _, _, _, _, _, _, _, _, _, _, _, _, _, _, _, _, _, _, _, _, rfl, (upd_all I0 (by decide)), (fun h => I1 (by rw [upd_other (by decide)] at h; exact h)), (fun h => I2 (by rw [upd_other (by decide)] at h; exact h)), (fun h => upd_mono (I3 (upd_ne h (by decide)))), (fun h => upd_mono (I4 (upd_ne h (by decide)))), (fun h => upd_mono (I5 (upd_ne h (by decide)))), (fun h => upd_mono (I6 (upd_ne h (by decide)))), (kp f0), (kp f1), (kp f2), (fun _ => rfl), (kp f4), (kp f5), (kp f6), (kp f7), (kp f8), (kp f9), (kp f10), (kp f11), (kp f12), (kp f13), (fun h => by
              obtain ⟨gs, e1, e2⟩ := f14 (upd_ne h (by decide))
              exact ⟨gs, e1, fun h21 => e2 (by rw [upd_other (by decide)] at h21; exact h21)⟩), (kp f15), (kp f16), (kp f17), (kp f18), (kp f19), (kp f20), (kp f21), (kp f22), (fun h => by
              obtain ⟨gs, e1, e2⟩ := f23 (upd_ne h (by decide))
              exact ⟨gs, e1, fun h24 => e2 (by rw [upd_other (by decide)] at h24; exact h24)⟩), (fun h => by
              obtain ⟨A9, c9, e1, e2, e3⟩ := f24 (upd_ne h (by decide))
              exact ⟨A9, c9, e1, e2, fun h26 => e3 (by rw [upd_other (by decide)] at h26; exact h26)⟩), (kp f25), (kp f26)⟩
        · obtain rfl := Option.some.inj ho
          have h26 : L 26 = false := by
            cases hh : L 26
            · rfl
            · exact absurd ((I0 hh 4 (by omega)).symm.trans hL) (by decide)
          refine wpOp_step rfl (fun K' hK => ?_)
          go_simp
          refine hK _ _ ?_
          exact ⟨_, _, _, _, _, _, _, _, _, _, _, _, _, _, _, _, _, _, _, _, _, _, _, _, _, _, rfl, (upd_all I0 (by decide)), (fun h => I1 (by rw [upd_other (by decide)] at h; exact h)), (fun h => I2 (by rw [upd_other (by decide)] at h; exact h)), (fun h => upd_mono (I3 (upd_ne h (by decide)))), (fun h => upd_mono (I4 (upd_ne h (by decide)))), (fun h => upd_mono (I5 (upd_ne h (by decide)))), (fun h => upd_mono (I6 (upd_ne h (by decide)))), (kp f0), (kp f1), (kp f2), (kp f3), (fun _ => rfl), (kp f5), (kp f6), (kp f7), (kp f8), (kp f9), (kp f10), (kp f11), (kp f12), (kp f13), (fun h => by
              obtain ⟨gs, e1, e2⟩ := f14 (upd_ne h (by decide))
              exact ⟨gs, e1, fun h21 => e2 (by rw [upd_other (by decide)] at h21; exact h21)⟩), (kp f15), (kp f16), (kp f17), (kp f18), (kp f19), (kp f20), (kp f21), (kp f22), (fun h => by
              obtain ⟨gs, e1, e2⟩ := f23 (upd_ne h (by decide))
              exact ⟨gs, e1, fun h24 => e2 (by rw [upd_other (by decide)] at h24; exact h24)⟩), (fun h => by
              obtain ⟨A9, c9, e1, e2, e3⟩ := f24 (upd_ne h (by decide))
              exact ⟨A9, c9, e1, e2, fun h26 => e3 (by rw [upd_other (by decide)] at h26; exact h26)⟩), (kp f25), (kp f26)⟩
        · obtain rfl := Option.some.inj ho
          have g3 := f3 (hd ⟨3, .data⟩ (by simp) rfl)
          have g4 := f4 (hd ⟨4, .data⟩ (by simp) rfl)
          subst g3
          subst g4
          have h26 : L 26 = false := by
            cases hh : L 26
            · rfl
            · exact absurd ((I0 hh 5 (by omega)).symm.trans hL) (by decide)
          refine wpOp_step rfl (fun K' hK => ?_)
          go_simp
          refine hK _ _ ?_
          exact ⟨_, _, _, _, _, _, _, _, _, _, _, _, _, _, _, _, _, _, _, _, _, _, _, _, _, _, rfl, (upd_all I0 (by decide)), (fun h => I1 (by rw [upd_other (by decide)] at h; exact h)), (fun h => I2 (by rw [upd_other (by decide)] at h; exact h)), (fun h => upd_mono (I3 (upd_ne h (by decide)))), (fun h => upd_mono (I4 (upd_ne h (by decide)))), (fun h => upd_mono (I5 (upd_ne h (by decide)))), (fun h => upd_mono (I6 (upd_ne h (by decide)))), (kp f0), (kp f1), (kp f2), (kp f3), (kp f4), (fun _ => by first | rfl | simp), (kp f6), (kp f7), (kp f8), (kp f9), (kp f10), (kp f11), (kp f12), (kp f13), (fun h => by
              obtain ⟨gs, e1, e2⟩ := f14 (upd_ne h (by decide))
              exact ⟨gs, e1, fun h21 => e2 (by rw [upd_other (by decide)] at h21; exact h21)⟩), (kp f15), (kp f16), (kp f17), (kp f18), (kp f19), (kp f20), (kp f21), (kp f22), (fun h => by
              obtain ⟨gs, e1, e2⟩ := f23 (upd_ne h (by decide))
              exact ⟨gs, e1, fun h24 => e2 (by rw [upd_other (by decide)] at h24; exact h24)⟩), (fun h => by
              obtain ⟨A9, c9, e1, e2, e3⟩ := f24 (upd_ne h (by decide))
              exact ⟨A9, c9, e1, e2, fun h26 => e3 (by rw [upd_other (by decide)] at h26; exact h26)⟩), (kp f25), (kp f26)⟩
        · obtain rfl := Option.some.inj ho
          have g5 := f5 (hd ⟨5, .data⟩ (by simp) rfl)
          subst g5
          have h26 : L 26 = false := by
            cases hh : L 26
            · rfl
            · exact absurd ((I0 hh 6 (by omega)).symm.trans hL) (by decide)
          refine wpOp_step rfl (fun K' hK => ?_)
          go_simp
          refine hK _ _ ?_
          exact ⟨_, _, _, _, _, _, _, _, _, _, _, _, _, _, _, _, _, _, _, _, _, _, _, _, _, _, rfl, (upd_all I0 (by decide)), (fun h => I1 (by rw [upd_other (by decide)] at h; exact h)), (fun h => I2 (by rw [upd_other (by decide)] at h; exact h)), (fun h => upd_mono (I3 (upd_ne h (by decide)))), (fun h => upd_mono (I4 (upd_ne h (by decide)))), (fun h => upd_mono (I5 (upd_ne h (by decide)))), (fun h => upd_mono (I6 (upd_ne h (by decide)))), (kp f0), (kp f1), (kp f2), (kp f3), (kp f4), (kp f5), (fun _ => by first | rfl | simp), (kp f7), (kp f8), (kp f9), (kp f10), (kp f11), (kp f12), (kp f13), (fun h => by
              obtain ⟨gs, e1, e2⟩ := f14 (upd_ne h (by decide))
              exact ⟨gs, e1, fun h21 => e2 (by rw [upd_other (by decide)] at h21; exact h21)⟩), (kp f15), (kp f16), (kp f17), (kp f18), (kp f19), (kp f20), (kp f21), (kp f22), (fun h => by
              obtain ⟨gs, e1, e2⟩ := f23 (upd_ne h (by decide))
              exact ⟨gs, e1, fun h24 => e2 (by rw [upd_other (by decide)] at h24; exact h24)⟩), (fun h => by
              obtain ⟨A9, c9, e1, e2, e3⟩ := f24 (upd_ne h (by decide))
              exact ⟨A9, c9, e1, e2, fun h26 => e3 (by rw [upd_other (by decide)] at h26; exact h26)⟩), (kp f25), (kp f26)⟩
        · obtain rfl := Option.some.inj ho
          have g6 := f6 (hd ⟨6, .data⟩ (by simp) rfl)
          subst g6
          have h26 : L 26 = false := by
            cases hh : L 26
            · rfl
            · exact absurd ((I0 hh 7 (by omega)).symm.trans hL) (by decide)
          obtain ⟨k0, k1, k2, k3, k4⟩ := HC.out ww (I1 h26)
          refine wpOp_step rfl (fun K' hK => ?_)
          go_simp
          refine hK _ _ ?_
          exact ⟨_, _, _, _, _, _, _, _, _, _, _, _, _, _, _, _, _, _, _, _, _, _, _, _, _, _, rfl, (upd_all I0 (by decide)), (fun h => I1 (by rw [upd_other (by decide)] at h; exact h)), (fun h => I2 (by rw [upd_other (by decide)] at h; exact h)), (fun h => upd_mono (I3 (upd_ne h (by decide)))), (fun h => upd_mono (I4 (upd_ne h (by decide)))), (fun h => upd_mono (I5 (upd_ne h (by decide)))), (fun h => upd_mono (I6 (upd_ne h (by decide)))), (kp f0), (kp f1), (kp f2), (kp f3), (kp f4), (kp f5), (kp f6), (fun _ => rfl), (kp f8), (kp f9), (kp f10), (kp f11), (kp f12), (kp f13), (fun h => by
              obtain ⟨gs, e1, e2⟩ := f14 (upd_ne h (by decide))
              exact ⟨gs, e1, fun h21 => e2 (by rw [upd_other (by decide)] at h21; exact h21)⟩), (kp f15), (kp f16), (kp f17), (kp f18), (kp f19), (kp f20), (kp f21), (kp f22), (fun h => by
              obtain ⟨gs, e1, e2⟩ := f23 (upd_ne h (by decide))
              exact ⟨gs, e1, fun h24 => e2 (by rw [upd_other (by decide)] at h24; exact h24)⟩), (fun h => by
              obtain ⟨A9, c9, e1, e2, e3⟩ := f24 (upd_ne h (by decide))
              exact ⟨A9, c9, e1, e2, fun h26 => e3 (by rw [upd_other (by decide)] at h26; exact h26)⟩), (kp f25), (kp f26)⟩
        · obtain rfl := Option.some.inj ho
          have h26 : L 26 = false := by
            cases hh : L 26
            · rfl
            · exact absurd ((I0 hh 8 (by omega)).symm.trans hL) (by decide)
          refine wpOp_step rfl (fun K' hK => ?_)
          go_simp
          refine hK _ _ ?_
          exact ⟨_, _, _, _, _, _, _, _, _, _, _, _, _, _, _, _, _, _, _, _, _, _, _, _, _, _, rfl, (upd_all I0 (by decide)), (fun h => I1 (by rw [upd_other (by decide)] at h; exact h)), (fun h => I2 (by rw [upd_other (by decide)] at h; exact h)), (fun h => upd_mono (I3 (upd_ne h (by decide)))), (fun h => upd_mono (I4 (upd_ne h (by decide)))), (fun h => upd_mono (I5 (upd_ne h (by decide)))), (fun h => upd_mono (I6 (upd_ne h (by decide)))), (kp f0), (kp f1), (kp f2), (kp f3), (kp f4), (kp f5), (kp f6), (kp f7), (fun _ => by first | rfl | simp), (kp f9), (kp f10), (kp f11), (kp f12), (kp f13), (fun h => by
              obtain ⟨gs, e1, e2⟩ := f14 (upd_ne h (by decide))
              exact ⟨gs, e1, fun h21 => e2 (by rw [upd_other (by decide)] at h21; exact h21)⟩), (kp f15), (kp f16), (kp f17), (kp f18), (kp f19), (kp f20), (kp f21), (kp f22), (fun h => by
              obtain ⟨gs, e1, e2⟩ := f23 (upd_ne h (by decide))
              exact ⟨gs, e1, fun h24 => e2 (by rw [upd_other (by decide)] at h24; exact h24)⟩), (fun h => by
              obtain ⟨A9, c9, e1, e2, e3⟩ := f24 (upd_ne h (by decide))
              exact ⟨A9, c9, e1, e2, fun h26 => e3 (by rw [upd_other (by decide)] at h26; exact h26)⟩), (kp f25), (kp f26)⟩
        · obtain rfl := Option.some.inj ho
          have g8 := f8 (hd ⟨8, .data⟩ (by simp) rfl)
          subst g8
          have h26 : L 26 = false := by
            cases hh : L 26
            · rfl
            · exact absurd ((I0 hh 9 (by omega)).symm.trans hL) (by decide)
          obtain ⟨k0, k1, k2, k3, k4⟩ := HC.out ww (I1 h26)
          refine wpOp_step rfl (fun K' hK => ?_)
          go_simp
          refine hK _ _ ?_
          exact ⟨_, _, _, _, _, _, _, _, _, _, _, _, _, _, _, _, _, _, _, _, _, _, _, _, _, _, rfl, (upd_all I0 (by decide)), (fun h => I1 (by rw [upd_other (by decide)] at h; exact h)), (fun h => I2 (by rw [upd_other (by decide)] at h; exact h)), (fun h => upd_mono (I3 (upd_ne h (by decide)))), (fun h => upd_mono (I4 (upd_ne h (by decide)))), (fun h => upd_mono (I5 (upd_ne h (by decide)))), (fun h => upd_mono (I6 (upd_ne h (by decide)))), (kp f0), (kp f1), (kp f2), (kp f3), (kp f4), (kp f5), (kp f6), (kp f7), (kp f8), (fun _ => rfl), (kp f10), (kp f11), (kp f12), (kp f13), (fun h => by
              obtain ⟨gs, e1, e2⟩ := f14 (upd_ne h (by decide))
              exact ⟨gs, e1, fun h21 => e2 (by rw [upd_other (by decide)] at h21; exact h21)⟩), (kp f15), (kp f16), (kp f17), (kp f18), (kp f19), (kp f20), (kp f21), (kp f22), (fun h => by
              obtain ⟨gs, e1, e2⟩ := f23 (upd_ne h (by decide))
              exact ⟨gs, e1, fun h24 => e2 (by rw [upd_other (by decide)] at h24; exact h24)⟩), (fun h => by
              obtain ⟨A9, c9, e1, e2, e3⟩ := f24 (upd_ne h (by decide))
              exact ⟨A9, c9, e1, e2, fun h26 => e3 (by rw [upd_other (by decide)] at h26; exact h26)⟩), (kp f25), (kp f26)⟩
        · obtain rfl := Option.some.inj ho
          have h26 : L 26 = false := by
            cases hh : L 26
            · rfl
            · exact absurd ((I0 hh 10 (by omega)).symm.trans hL) (by decide)
          refine wpOp_step rfl (fun K' hK => ?_)
          go_simp
          refine hK _ _ ?_
          exact ⟨_, _, _, _, _, _, _, _, _, _, _, _, _, _, _, _, _, _, _, _, _, _, _, _, _, _, rfl, (upd_all I0 (by decide)), (fun h => I1 (by rw [upd_other (by decide)] at h; exact h)), (fun h => I2 (by rw [upd_other (by decide)] at h; exact h)), (fun h => upd_mono (I3 (upd_ne h (by decide)))), (fun h => upd_mono (I4 (upd_ne h (by decide)))), (fun h => upd_mono (I5 (upd_ne h (by decide)))), (fun h => upd_mono (I6 (upd_ne h (by decide)))), (kp f0), (kp f1), (kp f2), (kp f3), (kp f4), (kp f5), (kp f6), (kp f7), (kp f8), (kp f9), (fun _ => rfl), (kp f11), (kp f12), (kp f13), (fun h => by
              obtain ⟨gs, e1, e2⟩ := f14 (upd_ne h (by decide))
              exact ⟨gs, e1, fun h21 => e2 (by rw [upd_other (by decide)] at h21; exact h21)⟩), (kp f15), (kp f16), (kp f17), (kp f18), (kp f19), (kp f20), (kp f21), (kp f22), (fun h => by
              obtain ⟨gs, e1, e2⟩ := f23 (upd_ne h (by decide))
              exact ⟨gs, e1, fun h24 => e2 (by rw [upd_other (by decide)] at h24; exact h24)⟩), (fun h => by
              obtain ⟨A9, c9, e1, e2, e3⟩ := f24 (upd_ne h (by decide))
              exact ⟨A9, c9, e1, e2, fun h26 => e3 (by rw [upd_other (by decide)] at h26; exact h26)⟩), (kp f25), (kp f26)⟩
        · obtain rfl := Option.some.inj ho
          have g9 := f9 (hd ⟨9, .data⟩ (by simp) rfl)
          have g10 := f10 (hd ⟨10, .data⟩ (by simp) rfl)
          subst g9
          subst g10
          have h26 : L 26 = false := by
            cases hh : L 26
            · rfl
            · exact absurd ((I0 hh 11 (by omega)).symm.trans hL) (by decide)
          refine wpOp_step rfl (fun K' hK => ?_)
          go_simp
          refine hK _ _ ?_
          exact ⟨_, _, _, _, _, _, _, _, _, _, _, _, _, _, _, _, _, _, _, _, _, _, _, _, _, _, rfl, (upd_all I0 (by decide)), (fun h => I1 (by rw [upd_other (by decide)] at h; exact h)), (fun h => I2 (by rw [upd_other (by decide)] at h; exact h)), (fun h => upd_mono (I3 (upd_ne h (by decide)))), (fun h => upd_mono (I4 (upd_ne h (by decide)))), (fun h => upd_mono (I5 (upd_ne h (by decide)))), (fun h => upd_mono (I6 (upd_ne h (by decide)))), (kp f0), (kp f1), (kp f2), (kp f3), (kp f4), (kp f5), (kp f6), (kp f7), (kp f8), (kp f9), (kp f10), (fun _ => by first | rfl | simp), (kp f12), (kp f13), (fun h => by
              obtain ⟨gs, e1, e2⟩ := f14 (upd_ne h (by decide))
              exact ⟨gs, e1, fun h21 => e2 (by rw [upd_other (by decide)] at h21; exact h21)⟩), (kp f15), (kp f16), (kp f17), (kp f18), (kp f19), (kp f20), (kp f21), (kp f22), (fun h => by
              obtain ⟨gs, e1, e2⟩ := f23 (upd_ne h (by decide))
              exact ⟨gs, e1, fun h24 => e2 (by rw [upd_other (by decide)] at h24; exact h24)⟩), (fun h => by
              obtain ⟨A9, c9, e1, e2, e3⟩ := f24 (upd_ne h (by decide))
              exact ⟨A9, c9, e1, e2, fun h26 => e3 (by rw [upd_other (by decide)] at h26; exact h26)⟩), (kp f25), (kp f26)⟩
        · obtain rfl := Option.some.inj ho
          have g11 := f11 (hd ⟨11, .data⟩ (by simp) rfl)
          subst g11
          have h26 : L 26 = false := by
            cases hh : L 26
            · rfl
            · exact absurd ((I0 hh 12 (by omega)).symm.trans hL) (by decide)
          refine wpOp_step rfl (fun K' hK => ?_)
          go_simp
          refine hK _ _ ?_
          exact ⟨_, _, _, _, _, _, _, _, _, _, _, _, _, _, _, _, _, _, _, _, _, _, _, _, _, _, rfl, (upd_all I0 (by decide)), (fun h => I1 (by rw [upd_other (by decide)] at h; exact h)), (fun h => I2 (by rw [upd_other (by decide)] at h; exact h)), (fun h => upd_mono (I3 (upd_ne h (by decide)))), (fun h => upd_mono (I4 (upd_ne h (by decide)))), (fun h => upd_mono (I5 (upd_ne h (by decide)))), (fun h => upd_mono (I6 (upd_ne h (by decide)))), (kp f0), (kp f1), (kp f2), (kp f3), (kp f4), (kp f5), (kp f6), (kp f7), (kp f8), (kp f9), (kp f10), (kp f11), (fun _ => by first | rfl | simp), (kp f13), (fun h => by
              obtain ⟨gs, e1, e2⟩ := f14 (upd_ne h (by decide))
              exact ⟨gs, e1, fun h21 => e2 (by rw [upd_other (by decide)] at h21; exact h21)⟩), (kp f15), (kp f16), (kp f17), (kp f18), (kp f19), (kp f20), (kp f21), (kp f22), (fun h => by
              obtain ⟨gs, e1, e2⟩ := f23 (upd_ne h (by decide))
              exact ⟨gs, e1, fun h24 => e2 (by rw [upd_other (by decide)] at h24; exact h24)⟩), (fun h => by
              obtain ⟨A9, c9, e1, e2, e3⟩ := f24 (upd_ne h (by decide))
              exact ⟨A9, c9, e1, e2, fun h26 => e3 (by rw [upd_other (by decide)] at h26; exact h26)⟩), (kp f25), (kp f26)⟩
        · obtain rfl := Option.some.inj ho
          have g12 := f12 (hd ⟨12, .data⟩ (by simp) rfl)
          subst g12
          have h26 : L 26 = false := by
            cases hh : L 26
            · rfl
            · exact absurd ((I0 hh 13 (by omega)).symm.trans hL) (by decide)
          obtain ⟨k0, k1, k2, k3, k4⟩ := HC.out ww (I1 h26)
          refine wpOp_step rfl (fun K' hK => ?_)
          go_simp
          refine hK _ _ ?_
          exact ⟨_, _, _, _, _, _, _, _, _, _, _, _, _, _, _, _, _, _, _, _, _, _, _, _, _, _, rfl, (upd_all I0 (by decide)), (fun h => I1 (by rw [upd_other (by decide)] at h; exact h)), (fun h => I2 (by rw [upd_other (by decide)] at h; exact h)), (fun h => upd_mono (I3 (upd_ne h (by decide)))), (fun h => upd_mono (I4 (upd_ne h (by decide)))), (fun h => upd_mono (I5 (upd_ne h (by decide)))), (fun h => upd_mono (I6 (upd_ne h (by decide)))), (kp f0), (kp f1), (kp f2), (kp f3), (kp f4), (kp f5), (kp f6), (kp f7), (kp f8), (kp f9), (kp f10), (kp f11), (kp f12), (fun _ => rfl), (fun h => by
              obtain ⟨gs, e1, e2⟩ := f14 (upd_ne h (by decide))
              exact ⟨gs, e1, fun h21 => e2 (by rw [upd_other (by decide)] at h21; exact h21)⟩), (kp f15), (kp f16), (kp f17), (kp f18), (kp f19), (kp f20), (kp f21), (kp f22), (fun h => by
              obtain ⟨gs, e1, e2⟩ := f23 (upd_ne h (by decide))
              exact ⟨gs, e1, fun h24 => e2 (by rw [upd_other (by decide)] at h24; exact h24)⟩), (fun h => by
              obtain ⟨A9, c9, e1, e2, e3⟩ := f24 (upd_ne h (by decide))
              exact ⟨A9, c9, e1, e2, fun h26 => e3 (by rw [upd_other (by decide)] at h26; exact h26)⟩), (kp f25), (kp f26)⟩
        · obtain rfl := Option.some.inj ho
          have h26 : L 26 = false := by
            cases hh : L 26
            · rfl
            · exact absurd ((I0 hh 14 (by omega)).symm.trans hL) (by decide)
          have h21 : L 21 = false := by
            cases hh : L 21
            · rfl
            · exact absurd ((I3 hh)) (by rw [hL]; decide)
          have h23 : L 23 = false := by
            cases hh : L 23
            · rfl
            · exact absurd (I4 hh) (by rw [h21]; decide)
          have h24 : L 24 = false := by
            cases hh : L 24
            · rfl
            · exact absurd (I5 hh) (by rw [h23]; decide)
          have hB := I2 h24
          refine wpOp_step rfl (fun K' hK => ?_)
          go_simp
          refine hK _ _ ?_
          exact ⟨_, _, _, _, _, _, _, _, _, _, _, _, _, _, _, _, _, _, _, _, _, _, _, _, _, _, rfl, (upd_all I0 (by decide)), (fun _ => below_any (hB.alloc hB.size _) _), (fun _ => hB.alloc hB.size _), (fun _ => upd_self), (fun h => upd_mono (I4 (upd_ne h (by decide)))), (fun h => upd_mono (I5 (upd_ne h (by decide)))), (fun h => upd_mono (I6 (upd_ne h (by decide)))), (kp f0), (kp f1), (kp f2), (kp f3), (kp f4), (kp f5), (kp f6), (kp f7), (kp f8), (kp f9), (kp f10), (kp f11), (kp f12), (kp f13), (fun _ => ⟨_, rfl, fun _ => own_noneI ww wr.heap.size hB.size⟩), (kp f15), (kp f16), (kp f17), (kp f18), (kp f19), (kp f20), (fun h => absurd ((upd_ne h (by decide)).symm.trans h21) (by decide)), (fun h => absurd (I6 (upd_ne h (by decide))) (by rw [h21]; decide)), (fun h => absurd ((upd_ne h (by decide)).symm.trans h23) (by decide)), (fun h => absurd ((upd_ne h (by decide)).symm.trans h24) (by decide)), (kp f25), (fun h => absurd ((upd_ne h (by decide)).symm.trans h26) (by decide))⟩
        · obtain rfl := Option.some.inj ho
          have h26 : L 26 = false := by
            cases hh : L 26
            · rfl
            · exact absurd ((I0 hh 15 (by omega)).symm.trans hL) (by decide)
          refine wpOp_step rfl (fun K' hK => ?_)
          go_simp
          refine hK _ _ ?_
          exact ⟨_, _, _, _, _, _, _, _, _, _, _, _, _, _, _, _, _, _, _, _, _, _, _, _, _, _, rfl, (upd_all I0 (by decide)), (fun h => I1 (by rw [upd_other (by decide)] at h; exact h)), (fun h => I2 (by rw [upd_other (by decide)] at h; exact h)), (fun h => upd_mono (I3 (upd_ne h (by decide)))), (fun h => upd_mono (I4 (upd_ne h (by decide)))), (fun h => upd_mono (I5 (upd_ne h (by decide)))), (fun h => upd_mono (I6 (upd_ne h (by decide)))), (kp f0), (kp f1), (kp f2), (kp f3), (kp f4), (kp f5), (kp f6), (kp f7), (kp f8), (kp f9), (kp f10), (kp f11), (kp f12), (kp f13), (fun h => by
              obtain ⟨gs, e1, e2⟩ := f14 (upd_ne h (by decide))
              exact ⟨gs, e1, fun h21 => e2 (by rw [upd_other (by decide)] at h21; exact h21)⟩), (fun _ => by first | rfl | simp), (kp f16), (kp f17), (kp f18), (kp f19), (kp f20), (kp f21), (kp f22), (fun h => by
              obtain ⟨gs, e1, e2⟩ := f23 (upd_ne h (by decide))
              exact ⟨gs, e1, fun h24 => e2 (by rw [upd_other (by decide)] at h24; exact h24)⟩), (fun h => by
              obtain ⟨A9, c9, e1, e2, e3⟩ := f24 (upd_ne h (by decide))
              exact ⟨A9, c9, e1, e2, fun h26 => e3 (by rw [upd_other (by decide)] at h26; exact h26)⟩), (kp f25), (kp f26)⟩
        · obtain rfl := Option.some.inj ho
          have g15 := f15 (hd ⟨15, .data⟩ (by simp) rfl)
          subst g15
          have h26 : L 26 = false := by
            cases hh : L 26
            · rfl
            · exact absurd ((I0 hh 16 (by omega)).symm.trans hL) (by decide)
          obtain ⟨k0, k1, k2, k3, k4⟩ := HC.out ww (I1 h26)
          refine wpOp_step rfl (fun K' hK => ?_)
          go_simp
          refine hK _ _ ?_
          exact ⟨_, _, _, _, _, _, _, _, _, _, _, _, _, _, _, _, _, _, _, _, _, _, _, _, _, _, rfl, (upd_all I0 (by decide)), (fun h => I1 (by rw [upd_other (by decide)] at h; exact h)), (fun h => I2 (by rw [upd_other (by decide)] at h; exact h)), (fun h => upd_mono (I3 (upd_ne h (by decide)))), (fun h => upd_mono (I4 (upd_ne h (by decide)))), (fun h => upd_mono (I5 (upd_ne h (by decide)))), (fun h => upd_mono (I6 (upd_ne h (by decide)))), (kp f0), (kp f1), (kp f2), (kp f3), (kp f4), (kp f5), (kp f6), (kp f7), (kp f8), (kp f9), (kp f10), (kp f11), (kp f12), (kp f13), (fun h => by
              obtain ⟨gs, e1, e2⟩ := f14 (upd_ne h (by decide))
              exact ⟨gs, e1, fun h21 => e2 (by rw [upd_other (by decide)] at h21; exact h21)⟩), (kp f15), (fun _ => rfl), (kp f17), (kp f18), (kp f19), (kp f20), (kp f21), (kp f22), (fun h => by
              obtain ⟨gs, e1, e2⟩ := f23 (upd_ne h (by decide))
              exact ⟨gs, e1, fun h24 => e2 (by rw [upd_other (by decide)] at h24; exact h24)⟩), (fun h => by
              obtain ⟨A9, c9, e1, e2, e3⟩ := f24 (upd_ne h (by decide))
              exact ⟨A9, c9, e1, e2, fun h26 => e3 (by rw [upd_other (by decide)] at h26; exact h26)⟩), (kp f25), (kp f26)⟩
        · obtain rfl := Option.some.inj ho
          have h26 : L 26 = false := by
            cases hh : L 26
            · rfl
            · exact absurd ((I0 hh 17 (by omega)).symm.trans hL) (by decide)
          refine wpOp_step rfl (fun K' hK => ?_)
          go_simp
          refine hK _ _ ?_
          exact ⟨_, _, _, _, _, _, _, _, _, _, _, _, _, _, _, _, _, _, _, _, _, _, _, _, _, _, rfl, (upd_all I0 (by decide)), (fun h => I1 (by rw [upd_other (by decide)] at h; exact h)), (fun h => I2 (by rw [upd_other (by decide)] at h; exact h)), (fun h => upd_mono (I3 (upd_ne h (by decide)))), (fun h => upd_mono (I4 (upd_ne h (by decide)))), (fun h => upd_mono (I5 (upd_ne h (by decide)))), (fun h => upd_mono (I6 (upd_ne h (by decide)))), (kp f0), (kp f1), (kp f2), (kp f3), (kp f4), (kp f5), (kp f6), (kp f7), (kp f8), (kp f9), (kp f10), (kp f11), (kp f12), (kp f13), (fun h => by
              obtain ⟨gs, e1, e2⟩ := f14 (upd_ne h (by decide))
              exact ⟨gs, e1, fun h21 => e2 (by rw [upd_other (by decide)] at h21; exact h21)⟩), (kp f15), (kp f16), (fun _ => rfl), (kp f18), (kp f19), (kp f20), (kp f21), (kp f22), (fun h => by
              obtain ⟨gs, e1, e2⟩ := f23 (upd_ne h (by decide))
              exact ⟨gs, e1, fun h24 => e2 (by rw [upd_other (by decide)] at h24; exact h24)⟩), (fun h => by
              obtain ⟨A9, c9, e1, e2, e3⟩ := f24 (upd_ne h (by decide))
              exact ⟨A9, c9, e1, e2, fun h26 => e3 (by rw [upd_other (by decide)] at h26; exact h26)⟩), (kp f25), (kp f26)⟩
        · obtain rfl := Option.some.inj ho
          have g16 := f16 (hd ⟨16, .data⟩ (by simp) rfl)
          have g17 := f17 (hd ⟨17, .data⟩ (by simp) rfl)
          subst g16
          subst g17
          have h26 : L 26 = false := by
            cases hh : L 26
            · rfl
            · exact absurd ((I0 hh 18 (by omega)).symm.trans hL) (by decide)
          refine wpOp_step rfl (fun K' hK => ?_)
          go_simp
          refine hK _ _ ?_
          exact ⟨_, _, _, _, _, _, _, _, _, _, _, _, _, _, _, _, _, _, _, _, _, _, _, _, _, _, rfl, (upd_all I0 (by decide)), (fun h => I1 (by rw [upd_other (by decide)] at h; exact h)), (fun h => I2 (by rw [upd_other (by decide)] at h; exact h)), (fun h => upd_mono (I3 (upd_ne h (by decide)))), (fun h => upd_mono (I4 (upd_ne h (by decide)))), (fun h => upd_mono (I5 (upd_ne h (by decide)))), (fun h => upd_mono (I6 (upd_ne h (by decide)))), (kp f0), (kp f1), (kp f2), (kp f3), (kp f4), (kp f5), (kp f6), (kp f7), (kp f8), (kp f9), (kp f10), (kp f11), (kp f12), (kp f13), (fun h => by
              obtain ⟨gs, e1, e2⟩ := f14 (upd_ne h (by decide))
              exact ⟨gs, e1, fun h21 => e2 (by rw [upd_other (by decide)] at h21; exact h21)⟩), (kp f15), (kp f16), (kp f17), (fun _ => by first | rfl | simp), (kp f19), (kp f20), (kp f21), (kp f22), (fun h => by
              obtain ⟨gs, e1, e2⟩ := f23 (upd_ne h (by decide))
              exact ⟨gs, e1, fun h24 => e2 (by rw [upd_other (by decide)] at h24; exact h24)⟩), (fun h => by
              obtain ⟨A9, c9, e1, e2, e3⟩ := f24 (upd_ne h (by decide))
              exact ⟨A9, c9, e1, e2, fun h26 => e3 (by rw [upd_other (by decide)] at h26; exact h26)⟩), (kp f25), (kp f26)⟩
        · obtain rfl := Option.some.inj ho
          have g18 := f18 (hd ⟨18, .data⟩ (by simp) rfl)
          subst g18
          have h26 : L 26 = false := by
            cases hh : L 26
            · rfl
            · exact absurd ((I0 hh 19 (by omega)).symm.trans hL) (by decide)
          refine wpOp_step rfl (fun K' hK => ?_)
          go_simp
          refine hK _ _ ?_
          exact ⟨_, _, _, _, _, _, _, _, _, _, _, _, _, _, _, _, _, _, _, _, _, _, _, _, _, _, rfl, (upd_all I0 (by decide)), (fun h => I1 (by rw [upd_other (by decide)] at h; exact h)), (fun h => I2 (by rw [upd_other (by decide)] at h; exact h)), (fun h => upd_mono (I3 (upd_ne h (by decide)))), (fun h => upd_mono (I4 (upd_ne h (by decide)))), (fun h => upd_mono (I5 (upd_ne h (by decide)))), (fun h => upd_mono (I6 (upd_ne h (by decide)))), (kp f0), (kp f1), (kp f2), (kp f3), (kp f4), (kp f5), (kp f6), (kp f7), (kp f8), (kp f9), (kp f10), (kp f11), (kp f12), (kp f13), (fun h => by
              obtain ⟨gs, e1, e2⟩ := f14 (upd_ne h (by decide))
              exact ⟨gs, e1, fun h21 => e2 (by rw [upd_other (by decide)] at h21; exact h21)⟩), (kp f15), (kp f16), (kp f17), (kp f18), (fun _ => by first | rfl | simp), (kp f20), (kp f21), (kp f22), (fun h => by
              obtain ⟨gs, e1, e2⟩ := f23 (upd_ne h (by decide))
              exact ⟨gs, e1, fun h24 => e2 (by rw [upd_other (by decide)] at h24; exact h24)⟩), (fun h => by
              obtain ⟨A9, c9, e1, e2, e3⟩ := f24 (upd_ne h (by decide))
              exact ⟨A9, c9, e1, e2, fun h26 => e3 (by rw [upd_other (by decide)] at h26; exact h26)⟩), (kp f25), (kp f26)⟩
        · obtain rfl := Option.some.inj ho
          have g19 := f19 (hd ⟨19, .data⟩ (by simp) rfl)
          subst g19
          have h26 : L 26 = false := by
            cases hh : L 26
            · rfl
            · exact absurd ((I0 hh 20 (by omega)).symm.trans hL) (by decide)
          obtain ⟨k0, k1, k2, k3, k4⟩ := HC.out ww (I1 h26)
          refine wpOp_step rfl (fun K' hK => ?_)
          go_simp
          refine hK _ _ ?_
          exact ⟨_, _, _, _, _, _, _, _, _, _, _, _, _, _, _, _, _, _, _, _, _, _, _, _, _, _, rfl, (upd_all I0 (by decide)), (fun h => I1 (by rw [upd_other (by decide)] at h; exact h)), (fun h => I2 (by rw [upd_other (by decide)] at h; exact h)), (fun h => upd_mono (I3 (upd_ne h (by decide)))), (fun h => upd_mono (I4 (upd_ne h (by decide)))), (fun h => upd_mono (I5 (upd_ne h (by decide)))), (fun h => upd_mono (I6 (upd_ne h (by decide)))), (kp f0), (kp f1), (kp f2), (kp f3), (kp f4), (kp f5), (kp f6), (kp f7), (kp f8), (kp f9), (kp f10), (kp f11), (kp f12), (kp f13), (fun h => by
              obtain ⟨gs, e1, e2⟩ := f14 (upd_ne h (by decide))
              exact ⟨gs, e1, fun h21 => e2 (by rw [upd_other (by decide)] at h21; exact h21)⟩), (kp f15), (kp f16), (kp f17), (kp f18), (kp f19), (fun _ => rfl), (kp f21), (kp f22), (fun h => by
              obtain ⟨gs, e1, e2⟩ := f23 (upd_ne h (by decide))
              exact ⟨gs, e1, fun h24 => e2 (by rw [upd_other (by decide)] at h24; exact h24)⟩), (fun h => by
              obtain ⟨A9, c9, e1, e2, e3⟩ := f24 (upd_ne h (by decide))
              exact ⟨A9, c9, e1, e2, fun h26 => e3 (by rw [upd_other (by decide)] at h26; exact h26)⟩), (kp f25), (kp f26)⟩
        · obtain rfl := Option.some.inj ho
          have g14 := f14 (hd ⟨14, .data⟩ (by simp) rfl)
          have g20 := f20 (hd ⟨20, .data⟩ (by simp) rfl)
          subst g20
          have h26 : L 26 = false := by
            cases hh : L 26
            · rfl
            · exact absurd ((I0 hh 21 (by omega)).symm.trans hL) (by decide)
          obtain ⟨gs, rfl, e14⟩ := g14
          have o14 := e14 hL
          have h23 : L 23 = false := by
            cases hh : L 23
            · rfl
            · exact absurd (I4 hh) (by rw [hL]; decide)
          have h24 : L 24 = false := by
            cases hh : L 24
            · rfl
            · exact absurd (I5 hh) (by rw [h23]; decide)
          have h22 : L 22 = false := by
            cases hh : L 22
            · rfl
            · exact absurd (I6 hh) (by rw [hL]; decide)
          have hB := I2 h24
          have hG := I1 h26
          refine wpOp_step rfl (fun K' hK => ?_)
          refine app_stepI rfl (.tmp 31) (.tmp 37) rfl wr.heap.size _ [] rfl o14 A' m' cc wr.heap.size cl.r rfl (HI.out.below hB) (by simp <;> omega) hB.size ?_
          intro v' w' o1 g1 s1
          rw [List.nil_append] at o1
          have hrow := fun kk hk => (World.ownsRow.lt o14 kk hk).1
          have hB2 := hB.grown g1 hB.size hrow
          obtain ⟨A8, c8, e8, x8⟩ := o1.form
          rw [hl3] at e8
          subst e8
          refine hK _ _ ?_
          exact ⟨_, _, _, _, _, _, _, _, _, _, _, _, _, _, _, _, _, _, _, _, _, _, _, _, _, _, rfl, (upd_all I0 (by decide)), (fun _ => below_any hB2 _), (fun _ => hB2), (fun _ => upd_mono (hd ⟨14, .data⟩ (by simp) rfl)), (fun _ => upd_self), (fun h => upd_mono (I5 (upd_ne h (by decide)))), (fun _ => upd_self), (kp f0), (kp f1), (kp f2), (kp f3), (kp f4), (kp f5), (kp f6), (kp f7), (kp f8), (kp f9), (kp f10), (kp f11), (kp f12), (kp f13), (fun _ => ⟨gs, rfl, fun h => absurd (upd_self.symm.trans h) (by decide)⟩), (kp f15), (kp f16), (kp f17), (kp f18), (kp f19), (kp f20), (fun _ => ⟨A8, c8, rfl, o1⟩), (fun h => absurd ((upd_ne h (by decide)).symm.trans h22) (by decide)), (fun h => absurd ((upd_ne h (by decide)).symm.trans h23) (by decide)), (fun h => absurd ((upd_ne h (by decide)).symm.trans h24) (by decide)), (kp f25), (fun h => absurd ((upd_ne h (by decide)).symm.trans h26) (by decide))⟩
        · obtain rfl := Option.some.inj ho
          have g7 := f7 (hd ⟨7, .data⟩ (by simp) rfl)
          have g13 := f13 (hd ⟨13, .data⟩ (by simp) rfl)
          have g21 := f21 (hd ⟨21, .data⟩ (by simp) rfl)
          subst g7
          subst g13
          have h26 : L 26 = false := by
            cases hh : L 26
            · rfl
            · exact absurd ((I0 hh 22 (by omega)).symm.trans hL) (by decide)
          obtain ⟨A8, c8, rfl, o8⟩ := g21
          refine wpOp_step rfl (fun K' hK => ?_)
          go_simp
          refine hK _ _ ?_
          exact ⟨_, _, _, _, _, _, _, _, _, _, _, _, _, _, _, _, _, _, _, _, _, _, _, _, _, _, rfl, (upd_all I0 (by decide)), (fun h => I1 (by rw [upd_other (by decide)] at h; exact h)), (fun h => I2 (by rw [upd_other (by decide)] at h; exact h)), (fun h => upd_mono (I3 (upd_ne h (by decide)))), (fun h => upd_mono (I4 (upd_ne h (by decide)))), (fun h => upd_mono (I5 (upd_ne h (by decide)))), (fun _ => upd_mono (hd ⟨21, .data⟩ (by simp) rfl)), (kp f0), (kp f1), (kp f2), (kp f3), (kp f4), (kp f5), (kp f6), (kp f7), (kp f8), (kp f9), (kp f10), (kp f11), (kp f12), (kp f13), (fun h => by
              obtain ⟨gs, e1, e2⟩ := f14 (upd_ne h (by decide))
              exact ⟨gs, e1, fun h21 => e2 (by rw [upd_other (by decide)] at h21; exact h21)⟩), (kp f15), (kp f16), (kp f17), (kp f18), (kp f19), (kp f20), (fun _ => ⟨A8, c8, rfl, o8⟩), (fun _ => rfl), (fun h => by
              obtain ⟨gs, e1, e2⟩ := f23 (upd_ne h (by decide))
              exact ⟨gs, e1, fun h24 => e2 (by rw [upd_other (by decide)] at h24; exact h24)⟩), (fun h => by
              obtain ⟨A9, c9, e1, e2, e3⟩ := f24 (upd_ne h (by decide))
              exact ⟨A9, c9, e1, e2, fun h26 => e3 (by rw [upd_other (by decide)] at h26; exact h26)⟩), (kp f25), (kp f26)⟩
        · obtain rfl := Option.some.inj ho
          have g22 := f22 (hd ⟨22, .data⟩ (by simp) rfl)
          subst g22
          have h26 : L 26 = false := by
            cases hh : L 26
            · rfl
            · exact absurd ((I0 hh 23 (by omega)).symm.trans hL) (by decide)
          have h21 := I6 (hd ⟨22, .data⟩ (by simp) rfl)
          obtain ⟨A8, c8, rfl, o8⟩ := f21 h21
          have h24 : L 24 = false := by
            cases hh : L 24
            · rfl
            · exact absurd (I5 hh) (by rw [hL]; decide)
          have hB := I2 h24
          refine wpOp_step rfl (fun K' hK => ?_)
          go_simp
          refine hK _ _ ?_
          exact ⟨_, _, _, _, _, _, _, _, _, _, _, _, _, _, _, _, _, _, _, _, _, _, _, _, _, _, rfl, (upd_all I0 (by decide)), (fun _ => below_any (hB.alloc hB.size _) _), (fun _ => hB.alloc hB.size _), (fun h => upd_mono (I3 (upd_ne h (by decide)))), (fun _ => upd_mono h21), (fun _ => upd_self), (fun h => upd_mono (I6 (upd_ne h (by decide)))), (kp f0), (kp f1), (kp f2), (kp f3), (kp f4), (kp f5), (kp f6), (kp f7), (kp f8), (kp f9), (kp f10), (kp f11), (kp f12), (kp f13), (fun h => by
              obtain ⟨gs, e1, e2⟩ := f14 (upd_ne h (by decide))
              exact ⟨gs, e1, fun hh => absurd (h21.symm.trans ((upd_other (by decide)).symm.trans hh)) (by decide)⟩), (kp f15), (kp f16), (kp f17), (kp f18), (kp f19), (kp f20), (fun _ => ⟨A8, c8, rfl, World.ownsRow.alloc o8 _⟩), (kp f22), (fun _ => ⟨_, rfl, fun _ => Rw.new _ _ _⟩), (fun h => absurd ((upd_ne h (by decide)).symm.trans h24) (by decide)), (kp f25), (fun h => absurd ((upd_ne h (by decide)).symm.trans h26) (by decide))⟩
        · obtain rfl := Option.some.inj ho
          have g1 := f1 (hd ⟨1, .data⟩ (by simp) rfl)
          have g23 := f23 (hd ⟨23, .data⟩ (by simp) rfl)
          subst g1
          have h26 : L 26 = false := by
            cases hh : L 26
            · rfl
            · exact absurd ((I0 hh 24 (by omega)).symm.trans hL) (by decide)
          obtain ⟨gs, rfl, e23⟩ := g23
          have q23 := e23 hL
          have h23 := hd ⟨23, .data⟩ (by simp) rfl
          have h21 := I4 h23
          obtain ⟨A8, c8, rfl, o8⟩ := f21 h21
          have hB := I2 hL
          refine wpOp_step rfl (fun K' hK => ?_)
          refine app_stepC rfl (.tmp 18) (.tmp 40) rfl (w.heap.size + 2) _ k (flatC (h.cs.take k) rvs) rfl (row_below HROW.out hB (Nat.le_refl _)) gs cl.u cl.d A8 m' c8 rfl q23 (by omega) (Nat.le_trans hbase hB.size) ?_
          intro v' w' A9 c9 e9 o1 g1 s1
          subst e9
          have hG2 := World.grownBy.trans (I1 h26) g1
          have o8' := o8.far g1 (APART.out _ (fun kk hk => (World.ownsRow.lt o8 kk hk).1))
          have hsep : (Value.slice A9 (k + 1) c9).ownBlock = (Value.slice A8 m' c8).ownBlock → (Value.slice A8 m' c8).ownBlock = none := fun e => sep_new s1 e (fun kk hk => World.ownsRow.lt o8 kk hk) (fun kk hk => (World.ownsRow.lt HROW.out kk hk).2)
          refine hK _ _ ?_
          exact ⟨_, _, _, _, _, _, _, _, _, _, _, _, _, _, _, _, _, _, _, _, _, _, _, _, _, _, rfl, (upd_all I0 (by decide)), (fun _ => hG2), (fun h => absurd (upd_self.symm.trans h) (by decide)), (fun h => upd_mono (I3 (upd_ne h (by decide)))), (fun h => upd_mono (I4 (upd_ne h (by decide)))), (fun _ => upd_mono h23), (fun h => upd_mono (I6 (upd_ne h (by decide)))), (kp f0), (kp f1), (kp f2), (kp f3), (kp f4), (kp f5), (kp f6), (kp f7), (kp f8), (kp f9), (kp f10), (kp f11), (kp f12), (kp f13), (fun h => by
              obtain ⟨gs, e1, e2⟩ := f14 (upd_ne h (by decide))
              exact ⟨gs, e1, fun hh => absurd (h21.symm.trans ((upd_other (by decide)).symm.trans hh)) (by decide)⟩), (kp f15), (kp f16), (kp f17), (kp f18), (kp f19), (kp f20), (fun _ => ⟨A8, c8, rfl, o8'⟩), (kp f22), (fun _ => ⟨gs, rfl, fun h => absurd (upd_self.symm.trans h) (by decide)⟩), (fun _ => ⟨A9, c9, rfl, s1.imp id (fun e => ⟨_, e, hB.size⟩), fun _ => ⟨o1, hsep⟩⟩), (kp f25), (fun h => absurd ((upd_ne h (by decide)).symm.trans h26) (by decide))⟩
        · obtain rfl := Option.some.inj ho
          have h26 : L 26 = false := by
            cases hh : L 26
            · rfl
            · exact absurd ((I0 hh 25 (by omega)).symm.trans hL) (by decide)
          refine wpOp_step rfl (fun K' hK => ?_)
          go_simp
          refine hK _ _ ?_
          exact ⟨_, _, _, _, _, _, _, _, _, _, _, _, _, _, _, _, _, _, _, _, _, _, _, _, _, _, rfl, (upd_all I0 (by decide)), (fun h => I1 (by rw [upd_other (by decide)] at h; exact h)), (fun h => I2 (by rw [upd_other (by decide)] at h; exact h)), (fun h => upd_mono (I3 (upd_ne h (by decide)))), (fun h => upd_mono (I4 (upd_ne h (by decide)))), (fun h => upd_mono (I5 (upd_ne h (by decide)))), (fun h => upd_mono (I6 (upd_ne h (by decide)))), (kp f0), (kp f1), (kp f2), (kp f3), (kp f4), (kp f5), (kp f6), (kp f7), (kp f8), (kp f9), (kp f10), (kp f11), (kp f12), (kp f13), (fun h => by
              obtain ⟨gs, e1, e2⟩ := f14 (upd_ne h (by decide))
              exact ⟨gs, e1, fun h21 => e2 (by rw [upd_other (by decide)] at h21; exact h21)⟩), (kp f15), (kp f16), (kp f17), (kp f18), (kp f19), (kp f20), (kp f21), (kp f22), (fun h => by
              obtain ⟨gs, e1, e2⟩ := f23 (upd_ne h (by decide))
              exact ⟨gs, e1, fun h24 => e2 (by rw [upd_other (by decide)] at h24; exact h24)⟩), (fun h => by
              obtain ⟨A9, c9, e1, e2, e3⟩ := f24 (upd_ne h (by decide))
              exact ⟨A9, c9, e1, e2, fun h26 => e3 (by rw [upd_other (by decide)] at h26; exact h26)⟩), (fun _ => by first | rfl | simp), (kp f26)⟩
        · obtain rfl := Option.some.inj ho
          have g24 := f24 (hd ⟨24, .data⟩ (by simp) rfl)
          have g25 := f25 (hd ⟨25, .data⟩ (by simp) rfl)
          subst g25
          have hphase := Lib.hid (show ∀ k, k < 26 → L k = true by
            intro k hk
            obtain rfl | rfl | rfl | rfl | rfl | rfl | rfl | rfl | rfl | rfl | rfl | rfl | rfl | rfl | rfl | rfl | rfl | rfl | rfl | rfl | rfl | rfl | rfl | rfl | rfl | rfl : k = 0 ∨ k = 1 ∨ k = 2 ∨ k = 3 ∨ k = 4 ∨ k = 5 ∨ k = 6 ∨ k = 7 ∨ k = 8 ∨ k = 9 ∨ k = 10 ∨ k = 11 ∨ k = 12 ∨ k = 13 ∨ k = 14 ∨ k = 15 ∨ k = 16 ∨ k = 17 ∨ k = 18 ∨ k = 19 ∨ k = 20 ∨ k = 21 ∨ k = 22 ∨ k = 23 ∨ k = 24 ∨ k = 25 := by omega
            · exact hd ⟨0, .phase⟩ (by simp) rfl
            · exact hd ⟨1, .phase⟩ (by simp) rfl
            · exact hd ⟨2, .phase⟩ (by simp) rfl
            · exact hd ⟨3, .phase⟩ (by simp) rfl
            · exact hd ⟨4, .phase⟩ (by simp) rfl
            · exact hd ⟨5, .phase⟩ (by simp) rfl
            · exact hd ⟨6, .phase⟩ (by simp) rfl
            · exact hd ⟨7, .phase⟩ (by simp) rfl
            · exact hd ⟨8, .phase⟩ (by simp) rfl
            · exact hd ⟨9, .phase⟩ (by simp) rfl
            · exact hd ⟨10, .phase⟩ (by simp) rfl
            · exact hd ⟨11, .phase⟩ (by simp) rfl
            · exact hd ⟨12, .phase⟩ (by simp) rfl
            · exact hd ⟨13, .phase⟩ (by simp) rfl
            · exact hd ⟨14, .phase⟩ (by simp) rfl
            · exact hd ⟨15, .phase⟩ (by simp) rfl
            · exact hd ⟨16, .phase⟩ (by simp) rfl
            · exact hd ⟨17, .phase⟩ (by simp) rfl
            · exact hd ⟨18, .phase⟩ (by simp) rfl
            · exact hd ⟨19, .phase⟩ (by simp) rfl
            · exact hd ⟨20, .phase⟩ (by simp) rfl
            · exact hd ⟨21, .phase⟩ (by simp) rfl
            · exact hd ⟨22, .phase⟩ (by simp) rfl
            · exact hd ⟨23, .phase⟩ (by simp) rfl
            · exact hd ⟨24, .data⟩ (by simp) rfl
            · exact hd ⟨25, .data⟩ (by simp) rfl)
          obtain ⟨A9, c9, rfl, q24, e24⟩ := g24
          obtain ⟨o9, hsep⟩ := e24 hL
          have h21 := hphase.out 21 (by omega)
          obtain ⟨A8, c8, rfl, o8⟩ := f21 h21
          have hG := I1 hL
          obtain ⟨k0, k1, k2, k3, k4⟩ := HC.out ww hG
          have kf := HFZ.out ww hG
          refine wpOp_step rfl (fun K' hK => ?_)
          go_simp
          refine hK _ _ ?_
          exact ⟨_, _, _, _, _, _, _, _, _, _, _, _, _, _, _, _, _, _, _, _, _, _, _, _, _, _, rfl, (fun _ k hk => upd_mono (hphase.out k hk)), (fun h => absurd (upd_self.symm.trans h) (by decide)), (fun h => absurd ((upd_other (by decide)).symm.trans h) (by rw [hphase.out 24 (by omega)]; decide)), (fun h => upd_mono (I3 (upd_ne h (by decide)))), (fun h => upd_mono (I4 (upd_ne h (by decide)))), (fun h => upd_mono (I5 (upd_ne h (by decide)))), (fun h => upd_mono (I6 (upd_ne h (by decide)))), (kp f0), (kp f1), (kp f2), (kp f3), (kp f4), (kp f5), (kp f6), (kp f7), (kp f8), (kp f9), (kp f10), (kp f11), (kp f12), (kp f13), (fun h => by
              obtain ⟨gs, e1, e2⟩ := f14 (upd_ne h (by decide))
              exact ⟨gs, e1, fun hh => absurd (h21.symm.trans ((upd_other (by decide)).symm.trans hh)) (by decide)⟩), (kp f15), (kp f16), (kp f17), (kp f18), (kp f19), (kp f20), (fun _ => ⟨A8, c8, rfl, o8.far (only_put (g := w5.heap.size) (World.grownBy.refl _ _) 0 _) (APB.out _ (fun kk hk => (World.ownsRow.lt o8 kk hk).1))⟩), (kp f22), (fun h => by
              obtain ⟨gs, e1, e2⟩ := f23 (upd_ne h (by decide))
              exact ⟨gs, e1, fun hh => absurd ((hphase.out 24 (by omega)).symm.trans ((upd_other (by decide)).symm.trans hh)) (by decide)⟩), (fun _ => ⟨A9, c9, rfl, q24, fun h => absurd (upd_self.symm.trans h) (by decide)⟩), (kp f25), (fun _ => ⟨ww, rfl, hG, o9, hsep⟩)⟩
      case hdone =>
        rintro L ac ww hall ⟨t17, t18, t19, t20, t21, t22, t23, t24, t25, t26, t27, t28, t29, t30, t31, t32, t33, t34, t35, t36, t37, t38, t39, t40, t41, t42, rfl, I0, I1, I2, I3, I4, I5, I6, f0, f1, f2, f3, f4, f5, f6, f7, f8, f9, f10, f11, f12, f13, f14, f15, f16, f17, f18, f19, f20, f21, f22, f23, f24, f25, f26⟩
        have e0 := f0 (hall 0 (by decide))
        have e1 := f1 (hall 1 (by decide))
        have e2 := f2 (hall 2 (by decide))
        have e3 := f3 (hall 3 (by decide))
        have e4 := f4 (hall 4 (by decide))
        have e5 := f5 (hall 5 (by decide))
        have e6 := f6 (hall 6 (by decide))
        have e7 := f7 (hall 7 (by decide))
        have e8 := f8 (hall 8 (by decide))
        have e9 := f9 (hall 9 (by decide))
        have e10 := f10 (hall 10 (by decide))
        have e11 := f11 (hall 11 (by decide))
        have e12 := f12 (hall 12 (by decide))
        have e13 := f13 (hall 13 (by decide))
        have e14 := f14 (hall 14 (by decide))
        have e15 := f15 (hall 15 (by decide))
        have e16 := f16 (hall 16 (by decide))
        have e17 := f17 (hall 17 (by decide))
        have e18 := f18 (hall 18 (by decide))
        have e19 := f19 (hall 19 (by decide))
        have e20 := f20 (hall 20 (by decide))
        have e21 := f21 (hall 21 (by decide))
        have e22 := f22 (hall 22 (by decide))
        have e23 := f23 (hall 23 (by decide))
        have e24 := f24 (hall 24 (by decide))
        have e25 := f25 (hall 25 (by decide))
        have e26 := f26 (hall 26 (by decide))
        clear f0 f1 f2 f3 f4 f5 f6 f7 f8 f9 f10 f11 f12 f13 f14 f15 f16 f17 f18 f19 f20 f21 f22 f23 f24 f25 f26
        obtain ⟨A9, c9, rfl, q24, _⟩ := e24
        obtain ⟨A8, c8, rfl, o8⟩ := e21
        obtain ⟨w1, rfl, hG, o9, hsep⟩ := e26
        have NX := Lib.hid (HS.out.next hlc hlt HCL.out hG o9 hsep q24 o8)
        clear o9 o8 hsep q24 hG I0 I1 I2 I3 I4 I5 I6
        go_wp2
        go_roundw
        case rel => exact ⟨k + 1, A9, c9, _, by omega, by go_num, NX.out⟩
        case measure => simp [intOf]; omega
    · obtain rfl : k = n := by omega
      have htk : h.cs.take k = h.cs := List.take_of_length_le (by omega)
      rw [htk] at S
      have x0 : wr.cell? ⟨w5.heap.size, 0, none⟩ = some (.slice Av k cv) := S.box.cell 0
      have x1 : wr.cell? ⟨w5.heap.size, 1, none⟩ = some (.slice A5 m c5) := S.box.cell 1
      have y0 : wr.cell? ⟨w.heap.size + 1, 0, none⟩ = some (.slice none 0 0) := S.res.cell 0
      have y1 : wr.cell? ⟨w.heap.size + 1, 1, none⟩ = some (.slice none 0 0) := S.res.cell 1
      have y2 := S.res.frozen 0
      have y3 := S.res.frozen 1
      have q0 := ((S.res.put 0 (.slice Av k cv)).put 1 (.slice A5 m c5)).cell 0
      have q1 := ((S.res.put 0 (.slice Av k cv)).put 1 (.slice A5 m c5)).cell 1
      have bn := (S.bel.setCell (p := ⟨w.heap.size + 1, 0, none⟩) (by simp) (.slice Av k cv)).setCell (p := ⟨w.heap.size + 1, 1, none⟩) (by simp) (.slice A5 m c5)
      have ap : Apart (some (w.heap.size + 1)) (Value.slice Av k cv :: Value.slice A5 m c5 :: rvs) := S.own.apart_below (by omega)
      have oh : OwnH ((wr.setCell ⟨w.heap.size + 1, 0, none⟩ (.slice Av k cv)).setCell ⟨w.heap.size + 1, 1, none⟩ (.slice A5 m c5)) w.heap.size (.slice Av k cv) (.slice A5 m c5) h :=
        ⟨rvs, ((S.own.far (only_put (g := w.heap.size + 1) (World.grownBy.refl _ _) 0 (.slice Av k cv)) ap).far (only_put (g := w.heap.size + 1) (World.grownBy.refl _ _) 1 (.slice A5 m c5)) ap).base (by omega)⟩
      have OH := Lib.hid oh
      simp at q0 q1
      clear ap htk oh S
      go_wp2_with fail
      exact bodyPost_ret (v := .agg #[.slice Av k cv, .slice A5 m c5]) (by simp [results, Tryd.results66, go_sem, *]) rfl ⟨_, _, rfl, OH.out, bn⟩
end Go.Proofs.YtfgdenmlfloloaaDoor

namespace Go.Proofs.YtfgdenmlfloloaaDoor
open Go.RowKit
theorem Sep.get {l : List Value} (h : Sep l) {i j : Nat} {a b : Value} (hi : l[i]? = some a) (hj : l[j]? = some b) (hne : i < j) : a.ownBlock = none ∨ a.ownBlock ≠ b.ownBlock := by
  obtain ⟨h1, e1⟩ := List.getElem?_eq_some_iff.1 hi
  obtain ⟨h2, e2⟩ := List.getElem?_eq_some_iff.1 hj
  have := List.pairwise_iff_getElem.1 h i j h1 h2 hne
  rw [e1, e2] at this
  exact this
theorem sep_back {a b : Value} (h : a.ownBlock = none ∨ a.ownBlock ≠ b.ownBlock) : b.ownBlock = none ∨ b.ownBlock ≠ a.ownBlock := by
  rcases h with e | e
  · cases e' : b.ownBlock with
    | none => exact .inl rfl
    | some k => right; rw [e]; simp
  · exact .inr fun e' => e e'.symm
/-- the blocks of the slices of references are neither the cells' nor the roots' -/
theorem OwnHx.apart_cells {w : World} {base : Nat} {vc vr : Value} {rvs : List Value} {h : Hp} (S : OwnHx w base vc vr rvs h) : ∀ v ∈ vr :: rvs, v.ownBlock = none ∨ v.ownBlock ≠ vc.ownBlock := fun v hv => by
  have := S.sep
  unfold Sep at this
  rw [List.pairwise_cons] at this
  exact sep_back (this.1 v hv)
theorem OwnHx.apart_roots {w : World} {base : Nat} {vc vr : Value} {rvs : List Value} {h : Hp} (S : OwnHx w base vc vr rvs h) : ∀ v ∈ vc :: rvs, v.ownBlock = none ∨ v.ownBlock ≠ vr.ownBlock := fun v hv => by
  have := S.sep
  unfold Sep at this
  rw [List.pairwise_cons, List.pairwise_cons] at this
  rcases List.mem_cons.1 hv with rfl | hv
  · exact this.1 vr (by simp)
  · exact sep_back (this.2.1 v hv)
theorem put_any (w : World) (g i : Nat) (u : Value) : w.grownBy (w.setCell ⟨g, i, none⟩ u) (some g) := ⟨rfl, rfl, rfl, by simp [World.setCell], fun j _ hne => Below.heap_setCell w _ u j (by rintro rfl; exact hne rfl)⟩
/-- a root is written -/
theorem OwnHx.root {w : World} {base g c i : Nat} {vc : Value} {rvs : List Value} {h : Hp} (S : OwnHx w base vc (.slice (some ⟨g, 0, none⟩) h.rt.length c) rvs h) (x : Int) :
    OwnHx (w.setCell ⟨g, i, none⟩ (.int .i64 x)) base vc (.slice (some ⟨g, 0, none⟩) h.rt.length c) rvs ⟨h.cs, h.rt.set i x⟩ := by
  have ap : ∀ v ∈ vc :: rvs, v.ownBlock = none ∨ v.ownBlock ≠ some g := S.apart_roots
  refine ⟨S.len, World.ownsRow.kept S.row (put_any w g i _) (ap vc (by simp)), fun k cl v hc hv => (S.refs k cl v hc hv).far (put_any w g i _) (ap v (by simp [List.mem_of_getElem? hv])), ?_, S.sep⟩
  exact S.roots.put' rfl x
/-- the number of a cell is written -/
theorem OwnHx.data {w : World} {base g c k : Nat} {vr : Value} {rvs : List Value} {h : Hp} {cl : Cl} (S : OwnHx w base (.slice (some ⟨g, 0, none⟩) h.cs.length c) vr rvs h) (hc : h.cs[k]? = some cl) (x : Int) :
    OwnHx (w.setCell ⟨g, k * 3 + 1, none⟩ (.int .i64 x)) base (.slice (some ⟨g, 0, none⟩) h.cs.length c) vr rvs ⟨h.cs.set k ⟨cl.u, x, cl.r⟩, h.rt⟩ := by
  have ap : ∀ v ∈ vr :: rvs, v.ownBlock = none ∨ v.ownBlock ≠ some g := S.apart_cells
  refine ⟨by simp [S.len], ?_, fun j c' v hc' hv => ?_, S.roots.far (put_any w g _ _) (ap vr (by simp)), S.sep⟩
  · have := (World.ownsRow.stored S.row (k * 3 + 1) (.int .i64 x)).1
    rw [flatC_set_d _ _ _ _ _ S.len hc] at this
    simpa using this
  · rw [List.getElem?_set] at hc'
    have hmem := List.mem_of_getElem? hv
    by_cases hj : k = j
    · subst hj
      rw [if_pos rfl, if_pos (List.getElem?_eq_some_iff.1 hc).1] at hc'
      injection hc' with hc'
      subst hc'
      exact (S.refs k cl v hc hv).far (put_any w g _ _) (ap v (by simp [hmem]))
    · rw [if_neg hj] at hc'
      exact (S.refs j c' v hc' hv).far (put_any w g _ _) (ap v (by simp [hmem]))
/-- a reference of a cell is written -/
theorem OwnHx.ref1 {w : World} {base g c k i : Nat} {vc vr : Value} {rvs : List Value} {h : Hp} {cl : Cl} (S : OwnHx w base vc vr rvs h) (hc : h.cs[k]? = some cl) (hv : rvs[k]? = some (.slice (some ⟨g, 0, none⟩) cl.r.length c)) (x : Int) :
    OwnHx (w.setCell ⟨g, i, none⟩ (.int .i64 x)) base vc vr rvs ⟨h.cs.set k ⟨cl.u, cl.d, cl.r.set i x⟩, h.rt⟩ := by
  have hgt : ∀ (j : Nat) (v : Value), j ≠ k → rvs[j]? = some v → v.ownBlock = none ∨ v.ownBlock ≠ some g := fun j v hj hvj => by
    have hs := S.sep
    unfold Sep at hs
    rw [List.pairwise_cons, List.pairwise_cons] at hs
    rcases Nat.lt_or_ge j k with h1 | h1
    · exact Sep.get hs.2.2 hvj hv h1
    · exact sep_back (Sep.get hs.2.2 hv hvj (by omega))
  have hmem := List.mem_of_getElem? hv
  have hvc : vc.ownBlock = none ∨ vc.ownBlock ≠ some g := sep_back (S.apart_cells (.slice (some ⟨g, 0, none⟩) cl.r.length c) (List.mem_cons_of_mem _ hmem))
  have hvr : vr.ownBlock = none ∨ vr.ownBlock ≠ some g := sep_back (S.apart_roots (.slice (some ⟨g, 0, none⟩) cl.r.length c) (List.mem_cons_of_mem _ hmem))
  refine ⟨by simp [S.len], ?_, fun j c' v hc' hvj => ?_, S.roots.far (put_any w g _ _) hvr, S.sep⟩
  · have := World.ownsRow.kept S.row (put_any w g i (.int .i64 x)) hvc
    rw [List.length_set, flatC_refs _ _ _ _ _ hc]
    exact this
  · rw [List.getElem?_set] at hc'
    by_cases hj : k = j
    · subst hj
      rw [if_pos rfl, if_pos (List.getElem?_eq_some_iff.1 hc).1] at hc'
      injection hc' with hc'
      subst hc'
      rw [hv] at hvj
      injection hvj with hvj
      subst hvj
      exact (S.refs k cl _ hc hv).put' rfl x
    · rw [if_neg hj] at hc'
      exact (S.refs j c' v hc' hvj).far (put_any w g _ _) (hgt j v (by omega) hvj)
/-- a whole cell is written, with references of the call's own -/
theorem OwnHx.cell {w : World} {base g c k : Nat} {vr rv : Value} {rvs : List Value} {h : Hp} {cl old : Cl} (S : OwnHx w base (.slice (some ⟨g, 0, none⟩) h.cs.length c) vr rvs h) (hc : h.cs[k]? = some old) (o : OwnI w base rv cl.r) (hap : ∀ v ∈ (Value.slice (some ⟨g, 0, none⟩) h.cs.length c) :: vr :: rvs, rv.ownBlock = none ∨ rv.ownBlock ≠ v.ownBlock) :
    OwnHx (((w.setCell ⟨g, k * 3, none⟩ (.bool cl.u)).setCell ⟨g, k * 3 + 1, none⟩ (.int .i64 cl.d)).setCell ⟨g, k * 3 + 2, none⟩ rv) base (.slice (some ⟨g, 0, none⟩) h.cs.length c) vr (rvs.set k rv) ⟨h.cs.set k cl, h.rt⟩ := by
  have hk := (List.getElem?_eq_some_iff.1 hc).1
  have ap : ∀ v ∈ vr :: rvs, v.ownBlock = none ∨ v.ownBlock ≠ some g := S.apart_cells
  have hrg : rv.ownBlock = none ∨ rv.ownBlock ≠ some g := hap (.slice (some ⟨g, 0, none⟩) h.cs.length c) (by simp)
  have far3 : ∀ {v : Value} {xs : List Int}, OwnI w base v xs → (v.ownBlock = none ∨ v.ownBlock ≠ some g) → OwnI (((w.setCell ⟨g, k * 3, none⟩ (.bool cl.u)).setCell ⟨g, k * 3 + 1, none⟩ (.int .i64 cl.d)).setCell ⟨g, k * 3 + 2, none⟩ rv) base v xs := fun ho hn => ((ho.far (put_any _ g _ _) hn).far (put_any _ g _ _) hn).far (put_any _ g _ _) hn
  refine ⟨by simp [S.len], ?_, fun j c' v hc' hvj => ?_, far3 S.roots (ap vr (by simp)), ?_⟩
  · have q := (((World.ownsRow.stored S.row (k * 3) (.bool cl.u)).1.stored (k * 3 + 1) (.int .i64 cl.d)).1.stored (k * 3 + 2) rv).1
    rw [flatC_set_u _ _ _ _ _ S.len hc] at q
    have hc1 : (h.cs.set k ⟨cl.u, old.d, old.r⟩)[k]? = some ⟨cl.u, old.d, old.r⟩ := by simp [hk]
    rw [flatC_set_d _ _ _ _ _ (by simp [S.len]) hc1] at q
    have hc2 : ((h.cs.set k ⟨cl.u, old.d, old.r⟩).set k ⟨cl.u, cl.d, old.r⟩)[k]? = some ⟨cl.u, cl.d, old.r⟩ := by simp [hk]
    rw [flatC_set_r _ _ _ _ _ cl.r (by simp [S.len]) hc2] at q
    simpa using q
  · rw [List.getElem?_set] at hc' hvj
    by_cases hj : k = j
    · subst hj
      rw [if_pos rfl, if_pos hk] at hc'
      rw [if_pos rfl, if_pos (by rw [S.len]; exact hk)] at hvj
      injection hc' with hc'
      injection hvj with hvj
      subst hc' hvj
      exact far3 o hrg
    · rw [if_neg hj] at hc' hvj
      exact far3 (S.refs j c' v hc' hvj) (ap v (by simp [List.mem_of_getElem? hvj]))
  · have hs := S.sep
    unfold Sep at hs ⊢
    rw [List.pairwise_cons, List.pairwise_cons] at hs ⊢
    refine ⟨fun v hv => ?_, fun v hv => ?_, ?_⟩
    · rcases List.mem_cons.1 hv with rfl | hv
      · exact hs.1 v (by simp)
      · rcases List.mem_or_eq_of_mem_set hv with hv | rfl
        · exact hs.1 v (by simp [hv])
        · exact sep_back (hap _ (by simp))
    · rcases List.mem_or_eq_of_mem_set hv with hv | rfl
      · exact hs.2.1 v hv
      · exact sep_back (hap _ (by simp))
    · rw [List.pairwise_iff_getElem]
      intro i j hi hj hij
      rw [List.length_set] at hi hj
      have hp := List.pairwise_iff_getElem.1 hs.2.2 i j hi hj hij
      rw [List.getElem_set, List.getElem_set]
      by_cases e1 : k = i
      · rw [if_pos e1, if_neg (by omega)]
        exact hap _ (by simp)
      · rw [if_neg e1]
        by_cases e2 : k = j
        · rw [if_pos e2]
          exact sep_back (hap _ (by simp))
        · rw [if_neg e2]
          exact hp
end Go.Proofs.YtfgdenmlfloloaaDoor

namespace Go.Proofs.YtfgdenmlfloloaaDoor
open Go.RowKit
set_option maxRecDepth 100000
set_option maxHeartbeats 1000000 in
theorem l8Place_any (A R : Option Addr) (n c m d : Nat) (h : Hp) (i p : Int) (w : World) (hs : HS w w.heap.size A n R m h) (_hn : n ≤ 1099511627776) (ho : Hps.okRef h.cs i = true) :
    Calls Tryd.prog 110 #[heapV A n c R m d, .int .i64 i, .int .i64 p] w fun e w' => e = .returned (.bool (Hps.placeH h.cs i p)) ∧ Below w.heap.size w w' := by
  have hlc := hs.cells.1
  have bb : Below w.heap.size w (w.alloc (.cells #[.slice A n c, .slice R m d] 26)) := (Below.refl _ _).alloc (Nat.le_refl _) _
  by_cases h0 : 0 ≤ i
  · obtain ⟨y, rfl, hy, _⟩ := Hps.okRef_nat ho h0
    obtain ⟨g, o, cl, A', m', cc, rfl, hg, hcl, d1, d2, d3, hmc, hi⟩ := (hs.cells.below bb).at_ (k := y) (by omega)
    have hyn : (y : Int) < n := by omega
    have HP := Lib.hid (show Hps.placeH h.cs (y : Int) p = decide (p < (m' : Int)) by
      simp [Hps.placeH, hcl, hi.1])
    clear ho hcl hy d1 d2 hi
    go_enter Tryd.func110, Tryd.ntmps110
    go_wp2_with fail
    go_ret
    exact ⟨by rw [HP.out]; rfl, bb⟩
  · have HP := Lib.hid (show Hps.placeH h.cs i p = false by rw [Hps.placeH, decide_eq_false h0]; rfl)
    have h0' : decide ((0 : Int) ≤ i) = false := decide_eq_false h0
    go_enter Tryd.func110, Tryd.ntmps110
    go_wp2_with fail
    go_ret
    exact ⟨by rw [HP.out]; rfl, bb⟩
namespace Hps
theorem canH_no {h : Hp} {o : Cm} (e : validH h = false ∨ okCm o = false) : canH h o = false := by
  unfold canH
  rcases e with e | e <;> simp [e]
theorem canH_get {h : Hp} {o : Cm} (h1 : validH h = true) (h2 : okCm o = true) (e : o.op = 2) : canH h o = placeH h.cs (rootAt h o.b) o.c := by
  simp [canH, h1, h2, e]
theorem canH_set {h : Hp} {o : Cm} (h1 : validH h = true) (h2 : okCm o = true) (e : o.op = 3) : canH h o = placeH h.cs (rootAt h o.a) o.c := by
  simp [canH, h1, h2, e]
theorem canH_data {h : Hp} {o : Cm} (h1 : validH h = true) (h2 : okCm o = true) (e : o.op = 6) : canH h o = decide (0 ≤ rootAt h o.a) := by
  simp [canH, h1, h2, e]
theorem canH_else {h : Hp} {o : Cm} (h1 : validH h = true) (h2 : okCm o = true) (e2 : ¬ o.op = 2) (e3 : ¬ o.op = 3) (e6 : ¬ o.op = 6) : canH h o = true := by
  simp [canH, h1, h2, e2, e3, e6]
theorem rootAt_nat {h : Hp} {k : Nat} {x : Int} (hx : h.rt[k]? = some x) : rootAt h (k : Int) = x := by simp [rootAt, hx]
end Hps
set_option maxHeartbeats 2000000 in
theorem mCommandPossible_any (A R : Option Addr) (n c m d : Nat) (h : Hp) (o : Cm) (w : World) (hs : HS w w.heap.size A n R m h) (hn : n ≤ 1099511627776) (hm : m ≤ 1099511627776) :
    Calls Tryd.prog 65 #[heapV A n c R m d, cmV o] w fun e w' => e = .returned (.bool (Hps.canH h o)) ∧ Below w.heap.size w w' := by
  have b2 : Below w.heap.size w ((w.alloc (.cells #[.slice A n c, .slice R m d] 26)).alloc (.cells #[.int .i64 o.op, .int .i64 o.a, .int .i64 o.b, .int .i64 o.c] 36)) := ((Below.refl w.heap.size w).alloc (Nat.le_refl _) _).alloc (by simp) _
  have s2 := hs.up b2
  have q1 := (Rw.new w 26 #[.slice A n c, .slice R m d]).alloc (.cells #[.int .i64 o.op, .int .i64 o.a, .int .i64 o.b, .int .i64 o.c] 36)
  have q2 := Rw.new (w.alloc (.cells #[.slice A n c, .slice R m d] 26)) 36 #[.int .i64 o.op, .int .i64 o.a, .int .i64 o.b, .int .i64 o.c]
  rw [World.size_alloc] at q2
  go_enter Tryd.func65, Tryd.ntmps65
  go_wp2_with fail
  refine (mHeapValid_any _ _ _ _ _ _ h _ s2 hn hm).mono ?_
  cases hv : Hps.validH h
  · have R0 := Lib.hid (Hps.canH_no (o := o) (.inl hv))
    rintro e w1 ⟨rfl, b1⟩
    have bb := b2.trans (b1.mono b2.size)
    go_wp2_with fail
    go_ret
    exact ⟨by rw [R0.out]; rfl, bb⟩
  rintro e w1 ⟨rfl, b1⟩
  replace q1 := q1.keep b1 q1.lt
  replace q2 := q2.keep b1 q2.lt
  replace b2 := b2.trans (b1.mono b2.size)
  replace s2 := hs.up b2
  have z0 : w1.cell? ⟨w.heap.size + 1, 0, none⟩ = some (.int .i64 o.op) := q2.cell 0
  have z1 : w1.cell? ⟨w.heap.size + 1, 1, none⟩ = some (.int .i64 o.a) := q2.cell 1
  have z2 : w1.cell? ⟨w.heap.size + 1, 2, none⟩ = some (.int .i64 o.b) := q2.cell 2
  have z3 : w1.cell? ⟨w.heap.size + 1, 3, none⟩ = some (.int .i64 o.c) := q2.cell 3
  clear b1
  go_wp2_with fail
  refine (mCommandValid_any o _).mono ?_
  cases ho : Hps.okCm o
  · have R0 := Lib.hid (Hps.canH_no (h := h) (.inr ho))
    rintro e w3 ⟨rfl, b1⟩
    have bb := b2.trans (b1.mono b2.size)
    go_wp2_with fail
    go_ret
    exact ⟨by rw [R0.out]; rfl, bb⟩
  rintro e w3 ⟨rfl, b1⟩
  replace q1 := q1.keep b1 q1.lt
  replace q2 := q2.keep b1 q2.lt
  replace b2 := b2.trans (b1.mono b2.size)
  replace s2 := hs.up b2
  have x0 : w3.cell? ⟨w.heap.size, 0, none⟩ = some (.slice A n c) := q1.cell 0
  have x1 : w3.cell? ⟨w.heap.size, 1, none⟩ = some (.slice R m d) := q1.cell 1
  have y0 : w3.cell? ⟨w.heap.size + 1, 0, none⟩ = some (.int .i64 o.op) := q2.cell 0
  have y1 : w3.cell? ⟨w.heap.size + 1, 1, none⟩ = some (.int .i64 o.a) := q2.cell 1
  have y2 : w3.cell? ⟨w.heap.size + 1, 2, none⟩ = some (.int .i64 o.b) := q2.cell 2
  have y3 : w3.cell? ⟨w.heap.size + 1, 3, none⟩ = some (.int .i64 o.c) := q2.cell 3
  have hr4 := (Hps.valid_iff.1 hv).2.2.1
  have hm4 : m = 4 := by rw [← hs.roots.1]; exact hr4
  clear b1 q1 q2 hr4 z0 z1 z2 z3
  by_cases e2 : o.op = 2
  · have R0 := Lib.hid (Hps.canH_get hv ho e2)
    obtain ⟨_, ⟨hb1, hb2⟩, _⟩ := (Hps.okCm_get (.inl e2)).1 ho
    obtain ⟨b, hbn⟩ := Int.eq_ofNat_of_zero_le hb1
    obtain ⟨g, og, x, e1, hg, hx, d1⟩ := s2.roots.at_ (k := b) (by omega)
    have HRt := Lib.hid (Hps.rootAt_nat hx)
    have ok := Hps.valid_root hv hx
    have hb4 : (b : Int) < m := by omega
    subst e1
    have BB := Lib.hid b2
    rw [e2] at y0
    rw [hbn] at y2
    clear hx e2 hb1 hb2 ho hv hm4 b2 y1
    go_wp2_with fail
    go_still_tail 9, (by kernel_rfl)
    change wpList _ _ _ _ _ w3.drew
    have b4 := BB.out.drew
    have s4 := hs.up b4
    generalize w3.drew = w4 at b4 s4
    go_wp2_with fail
    refine (l8Place_any _ _ _ _ _ _ h _ _ _ s4 hn ok).mono ?_
    rintro e w5 ⟨rfl, b5⟩
    have b6 := b4.trans (b5.mono b4.size)
    go_wp2_with fail
    go_ret
    exact ⟨by rw [R0.out, hbn, HRt.out]; rfl, b6⟩
  by_cases e3 : o.op = 3
  · have R0 := Lib.hid (Hps.canH_set hv ho e3)
    obtain ⟨hb1, hb2⟩ := Hps.okCm_a ho
    obtain ⟨b, hbn⟩ := Int.eq_ofNat_of_zero_le hb1
    obtain ⟨g, og, x, e1, hg, hx, d1⟩ := s2.roots.at_ (k := b) (by omega)
    have HRt := Lib.hid (Hps.rootAt_nat hx)
    have ok := Hps.valid_root hv hx
    have hb4 : (b : Int) < m := by omega
    subst e1
    have BB := Lib.hid b2
    rw [e3] at y0
    rw [hbn] at y1
    clear hx e2 e3 hb1 hb2 ho hv hm4 b2 y2
    go_wp2_with fail
    go_still_tail 9, (by kernel_rfl)
    change wpList _ _ _ _ _ w3.drew
    have b4 := BB.out.drew
    have s4 := hs.up b4
    generalize w3.drew = w4 at b4 s4
    go_wp2_with fail
    refine (l8Place_any _ _ _ _ _ _ h _ _ _ s4 hn ok).mono ?_
    rintro e w5 ⟨rfl, b5⟩
    have b6 := b4.trans (b5.mono b4.size)
    go_wp2_with fail
    go_ret
    exact ⟨by rw [R0.out, hbn, HRt.out]; rfl, b6⟩
  by_cases e6 : o.op = 6
  · have R0 := Lib.hid (Hps.canH_data hv ho e6)
    obtain ⟨hb1, hb2⟩ := Hps.okCm_a ho
    obtain ⟨b, hbn⟩ := Int.eq_ofNat_of_zero_le hb1
    obtain ⟨g, og, x, e1, hg, hx, d1⟩ := s2.roots.at_ (k := b) (by omega)
    have HRt := Lib.hid (Hps.rootAt_nat hx)
    have hb4 : (b : Int) < m := by omega
    subst e1
    rw [e6] at y0
    rw [hbn] at y1
    clear hx e2 e3 e6 hb1 hb2 ho hv hm4 y2 y3
    go_wp2_with fail
    go_ret
    exact ⟨by rw [R0.out, hbn, HRt.out]; rfl, b2⟩
  have R0 := Lib.hid (Hps.canH_else hv ho e2 e3 e6)
  clear ho hv hm4 y1 y2 y3 x0 x1
  go_wp2_with fail
  go_ret
  exact ⟨by rw [R0.out]; rfl, b2⟩
end Go.Proofs.YtfgdenmlfloloaaDoor

namespace Go.Proofs.YtfgdenmlfloloaaDoor
open Go.RowKit
theorem wpList_appendC {w : World} {ops : Array Oper} {rest : List Oper} {o : Oper} {a : Act} {Q : Exit → Act → World → Prop} (hgd : o.guard = none) (s x : Operand)
    (ho : o.op = .call { callee := .builtin .append, args := #[s, x], argTypes := #[23, 23] })
    (base : Nat) (v : Value) (n : Nat) (vs : List Value) (hs : a.eval s = v) (hown : w.ownsRow base 43 3 v n vs) (gs : Nat) (u : Bool) (d : Int) (A8 : Option Addr) (m8 c8 : Nat) (hx : a.eval x = .slice (some ⟨gs, 0, none⟩) 1 1)
    (hr : Rw w gs 43 #[.bool u, .int .i64 d, .slice A8 m8 c8]) (hn : n + 1 ≤ 1099511627776) (hbase : base ≤ w.heap.size)
    (h : ∀ v' w' A9 c9, v' = .slice A9 (n + 1) c9 → w'.ownsRow base 43 3 v' (n + 1) (vs ++ [.bool u, .int .i64 d, .slice A8 m8 c8]) → w.grownBy w' v.ownBlock → (v'.ownBlock = v.ownBlock ∨ v'.ownBlock = some w.heap.size) → wpList Tryd.prog ops Q rest (a.put o.dst v') w') : wpList Tryd.prog ops Q (o :: rest) a w :=
  wpList_plain hgd fun _ hK => app_stepC hgd s x ho base v n vs hs hown gs u d A8 m8 c8 hx hr hn hbase fun v' w' A9 c9 e1 e2 e3 e4 => hK _ _ (h v' w' A9 c9 e1 e2 e3 e4)
theorem OwnI.cell_at {w : World} {base g c n j : Nat} {xs : List Int} (h : OwnI w base (.slice (some ⟨g, 0, none⟩) n c) xs) (hj : j < n) : ∃ x : Int, xs[j]? = some x ∧ w.cell? ⟨g, j, none⟩ = some (.int .i64 x) := by
  obtain ⟨g', o', x, e, _, hx, hc⟩ := h.reads.at_ hj
  injection e with e
  injection e with e1 e2
  subst e1 e2
  rw [Nat.zero_add] at hc
  exact ⟨x, hx, hc⟩
/-- a cell of a heap of the call's own, in memory -/
theorem OwnHx.cell_at {w : World} {base n c k : Nat} {A : Option Addr} {vr : Value} {rvs : List Value} {h : Hp} {cl : Cl} (S : OwnHx w base (.slice A n c) vr rvs h) (hc : h.cs[k]? = some cl) :
    ∃ (g : Nat) (v : Value), A = some ⟨g, 0, none⟩ ∧ base ≤ g ∧ g < w.heap.size ∧ rvs[k]? = some v ∧ OwnI w base v cl.r ∧ w.cell? ⟨g, k * 3, none⟩ = some (.bool cl.u) ∧ w.cell? ⟨g, k * 3 + 1, none⟩ = some (.int .i64 cl.d) ∧ w.cell? ⟨g, k * 3 + 2, none⟩ = some v ∧ ∀ i, w.frozen? ⟨g, i, none⟩ = false := by
  have hk : k < h.cs.length := (List.getElem?_eq_some_iff.1 hc).1
  obtain ⟨v, hv, hi⟩ := S.ref hc
  obtain ⟨f1, f2, f3⟩ := flatC_at _ _ _ _ _ hc hv
  obtain ⟨A', c', R', d', e1, _, _, _, fA, _⟩ := S.form
  injection e1 with e1 e2 e3
  subst e1 e2 e3
  obtain ⟨g, rfl, h1, h2⟩ := fA (by omega)
  exact ⟨g, v, rfl, h1, h2, hv, hi, (World.ownsRow.cellAt S.row _ (by omega)).trans f1, (World.ownsRow.cellAt S.row _ (by omega)).trans f2, (World.ownsRow.cellAt S.row _ (by omega)).trans f3, fun i => World.ownsRow.frozenAt S.row i⟩
/-- a cell is put behind the last one -/
theorem OwnHx.snoc {w w1 : World} {base : Nat} {vc vr v9 v8 : Value} {rvs : List Value} {h : Hp} {cl : Cl} (S : OwnHx w base vc vr rvs h) (hG : w.grownBy w1 vc.ownBlock)
    (o9 : w1.ownsRow base 43 3 v9 (h.cs.length + 1) (flatC h.cs rvs ++ [.bool cl.u, .int .i64 cl.d, v8])) (q : v9.ownBlock = vc.ownBlock ∨ v9.ownBlock = some w.heap.size)
    (o8 : OwnI w base v8 cl.r) (hap : ∀ v ∈ vc :: vr :: rvs, v8.ownBlock = none ∨ v8.ownBlock ≠ v.ownBlock) : OwnHx w1 base v9 vr (rvs ++ [v8]) ⟨h.cs ++ [cl], h.rt⟩ := by
  have hsp := S.sep
  unfold Sep at hsp
  simp only [List.pairwise_cons, List.mem_cons] at hsp
  obtain ⟨sp1, sp2, sp3⟩ := hsp
  have h8lt : ∀ kk, v8.ownBlock = some kk → kk < w.heap.size := fun kk hk => (World.ownsRow.lt o8 kk hk).2
  have hvr : ∀ kk, vr.ownBlock = some kk → kk < w.heap.size := fun kk hk => (S.blocks (by simp) hk).2
  have hrv : ∀ v ∈ rvs, ∀ kk, v.ownBlock = some kk → kk < w.heap.size := fun v hv kk hk => (S.blocks (by simp [hv]) hk).2
  have h9old : ∀ v : Value, (vc.ownBlock = none ∨ vc.ownBlock ≠ v.ownBlock) → (∀ kk, v.ownBlock = some kk → kk < w.heap.size) → v9.ownBlock = none ∨ v9.ownBlock ≠ v.ownBlock := fun v hv hlt' => by
    rcases q with e | e
    · rw [e]; exact hv
    · right
      rw [e]
      intro e'
      have := hlt' _ e'.symm
      omega
  refine ⟨by simp [S.len], ?_, ?_, S.roots.far hG (sep_back (sp1 vr (.inl rfl))), ?_⟩
  · have e : flatC (h.cs ++ [cl]) (rvs ++ [v8]) = flatC h.cs rvs ++ [.bool cl.u, .int .i64 cl.d, v8] := by
      rw [flatC_append _ _ _ _ S.len]
      simp [flatC]
    rw [e, List.length_append, List.length_singleton]
    exact o9
  · intro j c' v hc' hv
    simp only at hc'
    rcases Nat.lt_or_ge j h.cs.length with hj | hj
    · rw [List.getElem?_append_left hj] at hc'
      rw [List.getElem?_append_left (by rw [S.len]; exact hj)] at hv
      exact (S.refs j c' v hc' hv).far hG (sep_back (sp1 v (.inr (List.mem_of_getElem? hv))))
    · rw [List.getElem?_append_right hj] at hc'
      rw [List.getElem?_append_right (by rw [S.len]; exact hj), S.len] at hv
      have hjk : j - h.cs.length = 0 := by
        rcases Nat.eq_zero_or_pos (j - h.cs.length) with e | e
        · exact e
        · rw [List.getElem?_eq_none (by simp; omega)] at hv; cases hv
      rw [hjk] at hc' hv
      simp at hc' hv
      subst hc' hv
      exact o8.far hG (hap vc (by simp))
  · unfold Sep
    simp only [List.pairwise_cons, List.mem_cons, List.mem_append, List.pairwise_append, List.not_mem_nil, or_false]
    refine ⟨fun v hv => ?_, fun v hv => ?_, sp3, ⟨by simp, List.Pairwise.nil⟩, fun a ha v hv => ?_⟩
    · rcases hv with rfl | hv | rfl
      · exact h9old v (sp1 v (.inl rfl)) hvr
      · exact h9old v (sp1 v (.inr hv)) (hrv v hv)
      · exact h9old v (sep_back (hap vc (by simp))) h8lt
    · rcases hv with hv | rfl
      · exact sp2 v hv
      · exact sep_back (hap vr (by simp))
    · subst hv
      exact sep_back (hap a (by simp [ha]))
/-- the copy in the box b, and the boxes of the arguments and of the result -/
structure DoSt (w wr : World) (b : Nat) (hb cb rb : Array Value) (vc vr : Value) (rvs : List Value) (h : Hp) : Prop where
  own : OwnHx wr (w.heap.size + 3) vc vr rvs h
  apart : Apart (some b) (vc :: vr :: rvs)
  box : Rw wr b 26 #[vc, vr]
  arg : Rw wr w.heap.size 26 hb
  cmd : Rw wr (w.heap.size + 1) 36 cb
  res : Rw wr (w.heap.size + 2) 26 rb
  bel : Below w.heap.size w wr
  lo : w.heap.size + 3 ≤ b
section
variable {w wr w1 : World} {b g c d i k : Nat} {hb cb rb : Array Value} {vc vr : Value} {rvs : List Value} {h : Hp} {cl : Cl}
theorem DoSt.drew (S : DoSt w wr b hb cb rb vc vr rvs h) : DoSt w wr.drew b hb cb rb vc vr rvs h := by
  have hw : Below wr.heap.size wr wr.drew := (Below.refl _ _).drew
  exact ⟨S.own.below hw (Nat.le_refl _), S.apart, S.box.keep hw S.box.lt, S.arg.keep hw S.arg.lt, S.cmd.keep hw S.cmd.lt, S.res.keep hw S.res.lt, S.bel.drew, S.lo⟩
theorem DoSt.up (S : DoSt w wr b hb cb rb vc vr rvs h) (hw : Below wr.heap.size wr w1) : DoSt w w1 b hb cb rb vc vr rvs h :=
  ⟨S.own.below hw (Nat.le_refl _), S.apart, S.box.keep hw S.box.lt, S.arg.keep hw S.arg.lt, S.cmd.keep hw S.cmd.lt, S.res.keep hw S.res.lt, S.bel.trans (hw.mono S.bel.size), S.lo⟩
/-- into a block of the copy's own something is written -/
theorem DoSt.into (S : DoSt w wr b hb cb rb vc vr rvs h) {v : Value} (hv : v ∈ vc :: vr :: rvs) (hg : v.ownBlock = some g) {rvs' : List Value} {h' : Hp} (u : Value)
    (ho : OwnHx (wr.setCell ⟨g, i, none⟩ u) (w.heap.size + 3) vc vr rvs' h') (ha : ∀ v ∈ rvs', v.ownBlock = none ∨ v.ownBlock ≠ some b) : DoSt w (wr.setCell ⟨g, i, none⟩ u) b hb cb rb vc vr rvs' h' := by
  have h1 := S.own.blocks hv hg
  have h2 : b ≠ g := by
    rcases S.apart v hv with e | e
    · rw [hg] at e; cases e
    · intro e'; rw [hg] at e; exact e (by rw [e'])
  refine ⟨ho, ?_, S.box.other h2 u, S.arg.other (by omega) u, S.cmd.other (by omega) u, S.res.other (by omega) u, S.bel.setCell (p := ⟨g, i, none⟩) (by show w.heap.size ≤ g; omega) u, S.lo⟩
  intro x hx
  simp only [List.mem_cons] at hx
  rcases hx with rfl | rfl | hx
  · exact S.apart x (by simp)
  · exact S.apart x (by simp)
  · exact ha x hx
theorem DoSt.root {m : Nat} (S : DoSt w wr b hb cb rb vc (.slice (some ⟨g, 0, none⟩) m d) rvs h) (hm : h.rt.length = m) (x : Int) : DoSt w (wr.setCell ⟨g, i, none⟩ (.int .i64 x)) b hb cb rb vc (.slice (some ⟨g, 0, none⟩) m d) rvs ⟨h.cs, h.rt.set i x⟩ := by
  subst hm
  exact S.into (v := .slice (some ⟨g, 0, none⟩) h.rt.length d) (by simp) rfl _ (S.own.root x) fun v hv => S.apart v (by simp [hv])
theorem DoSt.data {n : Nat} (S : DoSt w wr b hb cb rb (.slice (some ⟨g, 0, none⟩) n d) vr rvs h) (hn : h.cs.length = n) (hc : h.cs[k]? = some cl) (x : Int) : DoSt w (wr.setCell ⟨g, k * 3 + 1, none⟩ (.int .i64 x)) b hb cb rb (.slice (some ⟨g, 0, none⟩) n d) vr rvs ⟨h.cs.set k ⟨cl.u, x, cl.r⟩, h.rt⟩ := by
  subst hn
  exact S.into (v := .slice (some ⟨g, 0, none⟩) h.cs.length d) (by simp) rfl _ (S.own.data hc x) fun v hv => S.apart v (by simp [hv])
theorem DoSt.ref1 {m : Nat} (S : DoSt w wr b hb cb rb vc vr rvs h) (hc : h.cs[k]? = some cl) (hv : rvs[k]? = some (.slice (some ⟨g, 0, none⟩) m d)) (hm : cl.r.length = m) (x : Int) : DoSt w (wr.setCell ⟨g, i, none⟩ (.int .i64 x)) b hb cb rb vc vr rvs ⟨h.cs.set k ⟨cl.u, cl.d, cl.r.set i x⟩, h.rt⟩ := by
  subst hm
  exact S.into (v := .slice (some ⟨g, 0, none⟩) cl.r.length d) (by simp [List.mem_of_getElem? hv]) rfl _ (S.own.ref1 hc hv x) fun v hv => S.apart v (by simp [hv])
/-- a cell is put behind the last one, and the box holds the new slice -/
theorem DoSt.snoc {v9 v8 : Value} (S : DoSt w wr b hb cb rb vc vr rvs h) (hG : wr.grownBy w1 vc.ownBlock)
    (o9 : w1.ownsRow (w.heap.size + 3) 43 3 v9 (h.cs.length + 1) (flatC h.cs rvs ++ [.bool cl.u, .int .i64 cl.d, v8])) (q : v9.ownBlock = vc.ownBlock ∨ v9.ownBlock = some wr.heap.size)
    (o8 : OwnI wr (w.heap.size + 3) v8 cl.r) (hap : ∀ v ∈ vc :: vr :: rvs, v8.ownBlock = none ∨ v8.ownBlock ≠ v.ownBlock) (h8b : v8.ownBlock ≠ some b) :
    DoSt w (w1.setCell ⟨b, 0, none⟩ v9) b hb cb rb v9 vr (rvs ++ [v8]) ⟨h.cs ++ [cl], h.rt⟩ := by
  have hn := S.own.snoc hG o9 q o8 hap
  have hlo := S.lo
  have hbl := S.box.lt
  have hvcb : some b ≠ vc.ownBlock := by
    rcases S.apart vc (by simp) with e | e
    · rw [e]; simp
    · exact fun h => e h.symm
  have ap : Apart (some b) (v9 :: vr :: (rvs ++ [v8])) := by
    intro v hv
    simp only [List.mem_cons, List.mem_append, List.not_mem_nil, or_false] at hv
    rcases hv with rfl | rfl | hv | rfl
    · right
      rcases q with e | e
      · rw [e]; exact fun h => hvcb h.symm
      · rw [e]; intro e'; injection e' with e'; omega
    · exact S.apart v (by simp)
    · exact S.apart v (by simp [hv])
    · exact .inr h8b
  have far : ∀ {g' : Nat} {t : TypeId} {cs : Array Value}, Rw wr g' t cs → g' < w.heap.size + 3 → Rw (w1.setCell ⟨b, 0, none⟩ v9) g' t cs := fun hr hl =>
    Rw.other (Rw.far hr hG (fun e => by have := (S.own.blocks (v := vc) (by simp) e.symm).1; omega)) (by omega) _
  refine ⟨hn.far (put_any w1 b 0 v9) ap, ap, (Rw.far S.box hG hvcb).put 0 v9, far S.arg (by omega), far S.cmd (by omega), far S.res (by omega), ?_, hlo⟩
  exact (S.bel.grown hG S.bel.size (fun kk hk => by have := (S.own.blocks (v := vc) (by simp) hk).1; omega)).setCell (p := ⟨b, 0, none⟩) (by show w.heap.size ≤ b; omega) _
/-- a whole cell is written -/
theorem DoSt.cell {rv : Value} {old : Cl} (S : DoSt w wr b hb cb rb (.slice (some ⟨g, 0, none⟩) h.cs.length c) vr rvs h) (hc : h.cs[k]? = some old) (o : OwnI wr (w.heap.size + 3) rv cl.r) (hap : ∀ v ∈ (Value.slice (some ⟨g, 0, none⟩) h.cs.length c) :: vr :: rvs, rv.ownBlock = none ∨ rv.ownBlock ≠ v.ownBlock) (h8b : rv.ownBlock = none ∨ rv.ownBlock ≠ some b) :
    DoSt w (((wr.setCell ⟨g, k * 3, none⟩ (.bool cl.u)).setCell ⟨g, k * 3 + 1, none⟩ (.int .i64 cl.d)).setCell ⟨g, k * 3 + 2, none⟩ rv) b hb cb rb (.slice (some ⟨g, 0, none⟩) h.cs.length c) vr (rvs.set k rv) ⟨h.cs.set k cl, h.rt⟩ := by
  have hm : (Value.slice (some ⟨g, 0, none⟩) h.cs.length c) ∈ (Value.slice (some ⟨g, 0, none⟩) h.cs.length c) :: vr :: rvs := by simp
  have h1 : w.heap.size + 3 ≤ g ∧ g < wr.heap.size := S.own.blocks hm rfl
  have h2 : b ≠ g := by
    rcases S.apart _ hm with e | e
    · cases e
    · intro e'; exact e (by rw [e']; rfl)
  have oth : ∀ {g' : Nat} {t : TypeId} {cs : Array Value}, Rw wr g' t cs → g' ≠ g → Rw (((wr.setCell ⟨g, k * 3, none⟩ (.bool cl.u)).setCell ⟨g, k * 3 + 1, none⟩ (.int .i64 cl.d)).setCell ⟨g, k * 3 + 2, none⟩ rv) g' t cs := fun hr hne => ((hr.other hne _).other hne _).other hne _
  refine ⟨S.own.cell hc o hap, ?_, oth S.box h2, oth S.arg (by omega), oth S.cmd (by omega), oth S.res (by omega), ?_, S.lo⟩
  · intro x hx
    simp only [List.mem_cons] at hx
    rcases hx with rfl | rfl | hx
    · exact S.apart _ (by simp)
    · exact S.apart x (by simp)
    · rcases List.mem_or_eq_of_mem_set hx with hx | rfl
      · exact S.apart x (by simp [hx])
      · exact h8b
  · exact ((S.bel.setCell (p := ⟨g, k * 3, none⟩) (by show w.heap.size ≤ g; omega) _).setCell (p := ⟨g, k * 3 + 1, none⟩) (by show w.heap.size ≤ g; omega) _).setCell (p := ⟨g, k * 3 + 2, none⟩) (by show w.heap.size ≤ g; omega) _
theorem DoSt.cellN {n : Nat} {rv : Value} {old : Cl} (S : DoSt w wr b hb cb rb (.slice (some ⟨g, 0, none⟩) n c) vr rvs h) (hn : h.cs.length = n) (hc : h.cs[k]? = some old) (o : OwnI wr (w.heap.size + 3) rv cl.r) (hap : ∀ v ∈ (Value.slice (some ⟨g, 0, none⟩) n c) :: vr :: rvs, rv.ownBlock = none ∨ rv.ownBlock ≠ v.ownBlock) (h8b : rv.ownBlock = none ∨ rv.ownBlock ≠ some b) :
    DoSt w (((wr.setCell ⟨g, k * 3, none⟩ (.bool cl.u)).setCell ⟨g, k * 3 + 1, none⟩ (.int .i64 cl.d)).setCell ⟨g, k * 3 + 2, none⟩ rv) b hb cb rb (.slice (some ⟨g, 0, none⟩) n c) vr (rvs.set k rv) ⟨h.cs.set k cl, h.rt⟩ := by
  subst hn
  exact S.cell hc o hap h8b
/-- the copy goes into the result's box -/
theorem DoSt.done (S : DoSt w wr b hb cb rb vc vr rvs h) : OwnH ((wr.setCell ⟨w.heap.size + 2, 0, none⟩ vc).setCell ⟨w.heap.size + 2, 1, none⟩ vr) w.heap.size vc vr h ∧ Below w.heap.size w ((wr.setCell ⟨w.heap.size + 2, 0, none⟩ vc).setCell ⟨w.heap.size + 2, 1, none⟩ vr) := by
  have ap : Apart (some (w.heap.size + 2)) (vc :: vr :: rvs) := S.own.apart_below (by omega)
  exact ⟨⟨rvs, ((S.own.far (put_any wr _ 0 vc) ap).far (put_any _ _ 1 vr) ap).base (by omega)⟩, (S.bel.setCell (p := ⟨w.heap.size + 2, 0, none⟩) (by simp) vc).setCell (p := ⟨w.heap.size + 2, 1, none⟩) (by simp) vr⟩
end
end Go.Proofs.YtfgdenmlfloloaaDoor

namespace Go.Proofs.YtfgdenmlfloloaaDoor
open Go.RowKit
set_option maxRecDepth 100000
namespace Hps
theorem canH_parts {h : Hp} {o : Cm} (hc : canH h o = true) : validH h = true ∧ okCm o = true := by
  unfold canH at hc
  rw [Bool.and_eq_true, Bool.and_eq_true] at hc
  exact hc.1
end Hps
set_option maxHeartbeats 4000000 in
theorem l8Do_drop (A R : Option Addr) (n c m d : Nat) (h : Hp) (a : Nat) (ob : Int) (oc : Int) (p : Nat) (w : World) (hs : HS w w.heap.size A n R m h) (hv : Hps.validH h = true) (ha : a < 4) :
    Calls Tryd.prog 68 #[heapV A n c R m d, cmV ⟨5, a, ob, oc⟩, .int .i64 p] w (GaveH w (Hps.doH h ⟨5, a, ob, oc⟩ p)) := by
  have hlc := hs.cells.1
  have hlr := hs.roots.1
  have h40 := (Hps.valid_iff.1 hv).2.1
  obtain rfl : m = 4 := by rw [← hlr]; exact (Hps.valid_iff.1 hv).2.2.1
  have HL := Lib.hid hlr
  have h3 : ∀ cl ∈ h.cs, cl.r.length ≤ 1000000 := fun cl hcl => by have := (Hps.okCell_iff.1 ((Hps.valid_iff.1 hv).1 cl hcl)).2.2.1; omega
  have b3 : Below w.heap.size w (((w.alloc (.cells #[.slice A n c, .slice R 4 d] 26)).alloc (.cells #[.int .i64 5, .int .i64 a, .int .i64 ob, .int .i64 oc] 36)).alloc (.cells #[.slice none 0 0, .slice none 0 0] 26)) := (((Below.refl w.heap.size w).alloc (Nat.le_refl _) _).alloc (by simp) _).alloc (by simp; omega) _
  have s3 := hs.up b3
  have q0 := ((Rw.new w 26 #[.slice A n c, .slice R 4 d]).alloc (.cells #[.int .i64 5, .int .i64 a, .int .i64 ob, .int .i64 oc] 36)).alloc (.cells #[.slice none 0 0, .slice none 0 0] 26)
  have q1 := (Rw.new (w.alloc (.cells #[.slice A n c, .slice R 4 d] 26)) 36 #[.int .i64 5, .int .i64 a, .int .i64 ob, .int .i64 oc]).alloc (.cells #[.slice none 0 0, .slice none 0 0] 26)
  have q2 := Rw.new ((w.alloc (.cells #[.slice A n c, .slice R 4 d] 26)).alloc (.cells #[.int .i64 5, .int .i64 a, .int .i64 ob, .int .i64 oc] 36)) 26 #[.slice none 0 0, .slice none 0 0]
  simp only [World.size_alloc, Nat.add_assoc, Nat.reduceAdd] at q1 q2
  clear hlr
  go_enter Tryd.func68, Tryd.ntmps68
  go_wp2_with fail
  refine (l7Copy_any _ _ _ _ _ _ h _ s3 (by omega) (by omega) h3).mono ?_
  rintro e w1 ⟨vc, vr, rfl, ⟨rvs, own⟩, b1⟩
  replace q0 := q0.keep b1 q0.lt
  replace q1 := q1.keep b1 q1.lt
  replace q2 := q2.keep b1 q2.lt
  replace b3 := b3.trans (b1.mono b3.size)
  simp only [World.size_alloc, Nat.add_assoc, Nat.reduceAdd] at own b1
  have hsz : w.heap.size + 3 ≤ w1.heap.size := by have := b1.size; simp at this; omega
  obtain ⟨Ac, cc, Rc, dc, rfl, rfl, hcc, hdc, fA, fR⟩ := own.form
  rw [hlc] at own fA hcc ⊢
  rw [HL.out] at own fR hdc ⊢
  obtain ⟨gr, rfl, hgr1, hgr2⟩ := fR (by omega)
  have S : DoSt w (w1.alloc (.cells #[.slice Ac n cc, .slice (some ⟨gr, 0, none⟩) 4 dc] 26)) w1.heap.size #[.slice A n c, .slice R 4 d] #[.int .i64 5, .int .i64 a, .int .i64 ob, .int .i64 oc] #[.slice none 0 0, .slice none 0 0] (.slice Ac n cc) (.slice (some ⟨gr, 0, none⟩) 4 dc) rvs h :=
    ⟨own.below ((Below.refl w1.heap.size w1).alloc (Nat.le_refl _) _) (Nat.le_refl _), own.apart_new (Nat.le_refl _), Rw.new w1 _ _, q0.alloc _, q1.alloc _, q2.alloc _, b3.alloc b3.size _, hsz⟩
  clear b1 s3 h3 fR own q0 q1 q2 b3
  go_upto_region 2 with fail
  generalize w1.alloc (.cells #[.slice Ac n cc, .slice (some ⟨gr, 0, none⟩) 4 dc] 26) = w2 at S ⊢
  have hb := S.lo
  generalize w1.heap.size = b at S hb hgr2 fA ⊢
  clear hsz w1
  have y0 : w2.cell? ⟨w.heap.size + 1, 0, none⟩ = some (.int .i64 5) := S.cmd.cell 0
  have y1 : w2.cell? ⟨w.heap.size + 1, 1, none⟩ = some (.int .i64 a) := S.cmd.cell 1
  have y2 : w2.cell? ⟨w.heap.size + 1, 2, none⟩ = some (.int .i64 ob) := S.cmd.cell 2
  have y3 : w2.cell? ⟨w.heap.size + 1, 3, none⟩ = some (.int .i64 oc) := S.cmd.cell 3
  have x0 : w2.cell? ⟨b, 0, none⟩ = some (.slice Ac n cc) := S.box.cell 0
  have x1 : w2.cell? ⟨b, 1, none⟩ = some (.slice (some ⟨gr, 0, none⟩) 4 dc) := S.box.cell 1
  have hva := Hps.valid_iff.1 hv
  obtain ⟨xo, hxo, cr⟩ := S.own.roots.cell_at (j := a) (by omega)
  have fz : w2.frozen? ⟨gr, a, none⟩ = false := S.own.roots.frozen HL.out a
  have ham : (a : Int) < 4 := by omega
  have S1 := S.root (i := a) HL.out (-1)
  have r0 : (w2.setCell ⟨gr, a, none⟩ (.int .i64 (-1))).cell? ⟨b, 0, none⟩ = some (.slice Ac n cc) := S1.box.cell 0
  have r1 : (w2.setCell ⟨gr, a, none⟩ (.int .i64 (-1))).cell? ⟨b, 1, none⟩ = some (.slice (some ⟨gr, 0, none⟩) 4 dc) := S1.box.cell 1
  have r2 : (w2.setCell ⟨gr, a, none⟩ (.int .i64 (-1))).frozen? ⟨w.heap.size + 1 + 1, 0, none⟩ = false := S1.res.frozen 0
  have r3 : (w2.setCell ⟨gr, a, none⟩ (.int .i64 (-1))).frozen? ⟨w.heap.size + 1 + 1, 1, none⟩ = false := S1.res.frozen 1
  have r4 : (w2.setCell ⟨gr, a, none⟩ (.int .i64 (-1))).cell? ⟨w.heap.size + 1 + 1, 0, none⟩ = some (.slice none 0 0) := S1.res.cell 0
  have r5 : (w2.setCell ⟨gr, a, none⟩ (.int .i64 (-1))).cell? ⟨w.heap.size + 1 + 1, 1, none⟩ = some (.slice none 0 0) := S1.res.cell 1
  have r6 : (((w2.setCell ⟨gr, a, none⟩ (.int .i64 (-1))).setCell ⟨w.heap.size + 1 + 1, 0, none⟩ (.slice Ac n cc)).setCell ⟨w.heap.size + 1 + 1, 1, none⟩ (.slice (some ⟨gr, 0, none⟩) 4 dc)).cell? ⟨w.heap.size + 1 + 1, 0, none⟩ = some (.slice Ac n cc) := ((S1.res.put 0 (.slice Ac n cc)).put 1 (.slice (some ⟨gr, 0, none⟩) 4 dc)).cell 0
  have r7 : (((w2.setCell ⟨gr, a, none⟩ (.int .i64 (-1))).setCell ⟨w.heap.size + 1 + 1, 0, none⟩ (.slice Ac n cc)).setCell ⟨w.heap.size + 1 + 1, 1, none⟩ (.slice (some ⟨gr, 0, none⟩) 4 dc)).cell? ⟨w.heap.size + 1 + 1, 1, none⟩ = some (.slice (some ⟨gr, 0, none⟩) 4 dc) := ((S1.res.put 0 (.slice Ac n cc)).put 1 (.slice (some ⟨gr, 0, none⟩) 4 dc)).cell 1
  have D : Hid (OwnH (((w2.setCell ⟨gr, a, none⟩ (.int .i64 (-1))).setCell ⟨w.heap.size + 1 + 1, 0, none⟩ (.slice Ac n cc)).setCell ⟨w.heap.size + 1 + 1, 1, none⟩ (.slice (some ⟨gr, 0, none⟩) 4 dc)) w.heap.size (.slice Ac n cc) (.slice (some ⟨gr, 0, none⟩) 4 dc) _ ∧ Below w.heap.size w (((w2.setCell ⟨gr, a, none⟩ (.int .i64 (-1))).setCell ⟨w.heap.size + 1 + 1, 0, none⟩ (.slice Ac n cc)).setCell ⟨w.heap.size + 1 + 1, 1, none⟩ (.slice (some ⟨gr, 0, none⟩) 4 dc))) := Lib.hid S1.done
  have HF := Lib.hid (show Hps.doH h ⟨5, a, ob, oc⟩ p = ⟨h.cs, h.rt.set a (-1)⟩ by simp [Hps.doH])
  clear S1
  clear S hva hxo
  go_wp2_with fail
  exact bodyPost_ret (v := .agg #[.slice Ac n cc, .slice (some ⟨gr, 0, none⟩) 4 dc]) (by simp [results, Tryd.results68, go_sem, *]) rfl ⟨_, _, rfl, by rw [HF.out]; exact D.out.1, D.out.2⟩
set_option maxHeartbeats 4000000 in
theorem l8Do_copy (A R : Option Addr) (n c m d : Nat) (h : Hp) (a : Nat) (ob : Nat) (oc : Int) (p : Nat) (w : World) (hs : HS w w.heap.size A n R m h) (hv : Hps.validH h = true) (ha : a < 4) (hb4 : ob < 4) :
    Calls Tryd.prog 68 #[heapV A n c R m d, cmV ⟨4, a, ob, oc⟩, .int .i64 p] w (GaveH w (Hps.doH h ⟨4, a, ob, oc⟩ p)) := by
  have hlc := hs.cells.1
  have hlr := hs.roots.1
  have h40 := (Hps.valid_iff.1 hv).2.1
  obtain rfl : m = 4 := by rw [← hlr]; exact (Hps.valid_iff.1 hv).2.2.1
  have HL := Lib.hid hlr
  have h3 : ∀ cl ∈ h.cs, cl.r.length ≤ 1000000 := fun cl hcl => by have := (Hps.okCell_iff.1 ((Hps.valid_iff.1 hv).1 cl hcl)).2.2.1; omega
  have b3 : Below w.heap.size w (((w.alloc (.cells #[.slice A n c, .slice R 4 d] 26)).alloc (.cells #[.int .i64 4, .int .i64 a, .int .i64 ob, .int .i64 oc] 36)).alloc (.cells #[.slice none 0 0, .slice none 0 0] 26)) := (((Below.refl w.heap.size w).alloc (Nat.le_refl _) _).alloc (by simp) _).alloc (by simp; omega) _
  have s3 := hs.up b3
  have q0 := ((Rw.new w 26 #[.slice A n c, .slice R 4 d]).alloc (.cells #[.int .i64 4, .int .i64 a, .int .i64 ob, .int .i64 oc] 36)).alloc (.cells #[.slice none 0 0, .slice none 0 0] 26)
  have q1 := (Rw.new (w.alloc (.cells #[.slice A n c, .slice R 4 d] 26)) 36 #[.int .i64 4, .int .i64 a, .int .i64 ob, .int .i64 oc]).alloc (.cells #[.slice none 0 0, .slice none 0 0] 26)
  have q2 := Rw.new ((w.alloc (.cells #[.slice A n c, .slice R 4 d] 26)).alloc (.cells #[.int .i64 4, .int .i64 a, .int .i64 ob, .int .i64 oc] 36)) 26 #[.slice none 0 0, .slice none 0 0]
  simp only [World.size_alloc, Nat.add_assoc, Nat.reduceAdd] at q1 q2
  clear hlr
  go_enter Tryd.func68, Tryd.ntmps68
  go_wp2_with fail
  refine (l7Copy_any _ _ _ _ _ _ h _ s3 (by omega) (by omega) h3).mono ?_
  rintro e w1 ⟨vc, vr, rfl, ⟨rvs, own⟩, b1⟩
  replace q0 := q0.keep b1 q0.lt
  replace q1 := q1.keep b1 q1.lt
  replace q2 := q2.keep b1 q2.lt
  replace b3 := b3.trans (b1.mono b3.size)
  simp only [World.size_alloc, Nat.add_assoc, Nat.reduceAdd] at own b1
  have hsz : w.heap.size + 3 ≤ w1.heap.size := by have := b1.size; simp at this; omega
  obtain ⟨Ac, cc, Rc, dc, rfl, rfl, hcc, hdc, fA, fR⟩ := own.form
  rw [hlc] at own fA hcc ⊢
  rw [HL.out] at own fR hdc ⊢
  obtain ⟨gr, rfl, hgr1, hgr2⟩ := fR (by omega)
  have S : DoSt w (w1.alloc (.cells #[.slice Ac n cc, .slice (some ⟨gr, 0, none⟩) 4 dc] 26)) w1.heap.size #[.slice A n c, .slice R 4 d] #[.int .i64 4, .int .i64 a, .int .i64 ob, .int .i64 oc] #[.slice none 0 0, .slice none 0 0] (.slice Ac n cc) (.slice (some ⟨gr, 0, none⟩) 4 dc) rvs h :=
    ⟨own.below ((Below.refl w1.heap.size w1).alloc (Nat.le_refl _) _) (Nat.le_refl _), own.apart_new (Nat.le_refl _), Rw.new w1 _ _, q0.alloc _, q1.alloc _, q2.alloc _, b3.alloc b3.size _, hsz⟩
  clear b1 s3 h3 fR own q0 q1 q2 b3
  go_upto_region 2 with fail
  generalize w1.alloc (.cells #[.slice Ac n cc, .slice (some ⟨gr, 0, none⟩) 4 dc] 26) = w2 at S ⊢
  have hb := S.lo
  generalize w1.heap.size = b at S hb hgr2 fA ⊢
  clear hsz w1
  have y0 : w2.cell? ⟨w.heap.size + 1, 0, none⟩ = some (.int .i64 4) := S.cmd.cell 0
  have y1 : w2.cell? ⟨w.heap.size + 1, 1, none⟩ = some (.int .i64 a) := S.cmd.cell 1
  have y2 : w2.cell? ⟨w.heap.size + 1, 2, none⟩ = some (.int .i64 ob) := S.cmd.cell 2
  have y3 : w2.cell? ⟨w.heap.size + 1, 3, none⟩ = some (.int .i64 oc) := S.cmd.cell 3
  have x0 : w2.cell? ⟨b, 0, none⟩ = some (.slice Ac n cc) := S.box.cell 0
  have x1 : w2.cell? ⟨b, 1, none⟩ = some (.slice (some ⟨gr, 0, none⟩) 4 dc) := S.box.cell 1
  have hva := Hps.valid_iff.1 hv
  have ham : (a : Int) < 4 := by omega
  have AR := hs.up S.bel
  have u0 : w2.cell? ⟨w.heap.size, 0, none⟩ = some (.slice A n c) := S.arg.cell 0
  have u1 : w2.cell? ⟨w.heap.size, 1, none⟩ = some (.slice R 4 d) := S.arg.cell 1
  obtain ⟨g2, o2, x, e1, hg2, hx, d1⟩ := AR.roots.at_ (k := ob) (by omega)
  subst e1
  have hbm : (ob : Int) < 4 := by omega
  have HX := Lib.hid hx
  have SS := Lib.hid S
  clear hx S AR hva y3
  go_wp2_with fail
  go_still_tail 10, (by kernel_rfl)
  change wpList _ _ _ _ _ w2.drew
  have S4 := SS.out.drew
  generalize w2.drew = w4 at S4 ⊢
  obtain ⟨xo, hxo, cr⟩ := S4.own.roots.cell_at (j := a) (by omega)
  have fz : w4.frozen? ⟨gr, a, none⟩ = false := S4.own.roots.frozen HL.out a
  have S1 := S4.root (i := a) HL.out x
  have hx := HX.out
  have r0 : (w4.setCell ⟨gr, a, none⟩ (.int .i64 x)).cell? ⟨b, 0, none⟩ = some (.slice Ac n cc) := S1.box.cell 0
  have r1 : (w4.setCell ⟨gr, a, none⟩ (.int .i64 x)).cell? ⟨b, 1, none⟩ = some (.slice (some ⟨gr, 0, none⟩) 4 dc) := S1.box.cell 1
  have r2 : (w4.setCell ⟨gr, a, none⟩ (.int .i64 x)).frozen? ⟨w.heap.size + 1 + 1, 0, none⟩ = false := S1.res.frozen 0
  have r3 : (w4.setCell ⟨gr, a, none⟩ (.int .i64 x)).frozen? ⟨w.heap.size + 1 + 1, 1, none⟩ = false := S1.res.frozen 1
  have r4 : (w4.setCell ⟨gr, a, none⟩ (.int .i64 x)).cell? ⟨w.heap.size + 1 + 1, 0, none⟩ = some (.slice none 0 0) := S1.res.cell 0
  have r5 : (w4.setCell ⟨gr, a, none⟩ (.int .i64 x)).cell? ⟨w.heap.size + 1 + 1, 1, none⟩ = some (.slice none 0 0) := S1.res.cell 1
  have r6 : (((w4.setCell ⟨gr, a, none⟩ (.int .i64 x)).setCell ⟨w.heap.size + 1 + 1, 0, none⟩ (.slice Ac n cc)).setCell ⟨w.heap.size + 1 + 1, 1, none⟩ (.slice (some ⟨gr, 0, none⟩) 4 dc)).cell? ⟨w.heap.size + 1 + 1, 0, none⟩ = some (.slice Ac n cc) := ((S1.res.put 0 (.slice Ac n cc)).put 1 (.slice (some ⟨gr, 0, none⟩) 4 dc)).cell 0
  have r7 : (((w4.setCell ⟨gr, a, none⟩ (.int .i64 x)).setCell ⟨w.heap.size + 1 + 1, 0, none⟩ (.slice Ac n cc)).setCell ⟨w.heap.size + 1 + 1, 1, none⟩ (.slice (some ⟨gr, 0, none⟩) 4 dc)).cell? ⟨w.heap.size + 1 + 1, 1, none⟩ = some (.slice (some ⟨gr, 0, none⟩) 4 dc) := ((S1.res.put 0 (.slice Ac n cc)).put 1 (.slice (some ⟨gr, 0, none⟩) 4 dc)).cell 1
  have D : Hid (OwnH (((w4.setCell ⟨gr, a, none⟩ (.int .i64 x)).setCell ⟨w.heap.size + 1 + 1, 0, none⟩ (.slice Ac n cc)).setCell ⟨w.heap.size + 1 + 1, 1, none⟩ (.slice (some ⟨gr, 0, none⟩) 4 dc)) w.heap.size (.slice Ac n cc) (.slice (some ⟨gr, 0, none⟩) 4 dc) _ ∧ Below w.heap.size w (((w4.setCell ⟨gr, a, none⟩ (.int .i64 x)).setCell ⟨w.heap.size + 1 + 1, 0, none⟩ (.slice Ac n cc)).setCell ⟨w.heap.size + 1 + 1, 1, none⟩ (.slice (some ⟨gr, 0, none⟩) 4 dc))) := Lib.hid S1.done
  have HF := Lib.hid (show Hps.doH h ⟨4, a, ob, oc⟩ p = ⟨h.cs, h.rt.set a x⟩ by simp [Hps.doH, Hps.rootAt, hx])
  clear S1
  clear S4 hxo hx
  go_wp2_with fail
  exact bodyPost_ret (v := .agg #[.slice Ac n cc, .slice (some ⟨gr, 0, none⟩) 4 dc]) (by simp [results, Tryd.results68, go_sem, *]) rfl ⟨_, _, rfl, by rw [HF.out]; exact D.out.1, D.out.2⟩
set_option maxHeartbeats 4000000 in
theorem l8Do_get (A R : Option Addr) (n c m d : Nat) (h : Hp) (a : Nat) (ob : Nat) (oc : Nat) (p : Nat) (w : World) (hs : HS w w.heap.size A n R m h) (hv : Hps.validH h = true) (ha : a < 4) (hb4 : ob < 4) (k : Nat) (cl : Cl) (hk : Hps.rootAt h ob = k) (hcl : h.cs[k]? = some cl) (hoc : oc < cl.r.length) :
    Calls Tryd.prog 68 #[heapV A n c R m d, cmV ⟨2, a, ob, oc⟩, .int .i64 p] w (GaveH w (Hps.doH h ⟨2, a, ob, oc⟩ p)) := by
  have hlc := hs.cells.1
  have hlr := hs.roots.1
  have h40 := (Hps.valid_iff.1 hv).2.1
  obtain rfl : m = 4 := by rw [← hlr]; exact (Hps.valid_iff.1 hv).2.2.1
  have HL := Lib.hid hlr
  have h3 : ∀ cl ∈ h.cs, cl.r.length ≤ 1000000 := fun cl hcl => by have := (Hps.okCell_iff.1 ((Hps.valid_iff.1 hv).1 cl hcl)).2.2.1; omega
  have b3 : Below w.heap.size w (((w.alloc (.cells #[.slice A n c, .slice R 4 d] 26)).alloc (.cells #[.int .i64 2, .int .i64 a, .int .i64 ob, .int .i64 oc] 36)).alloc (.cells #[.slice none 0 0, .slice none 0 0] 26)) := (((Below.refl w.heap.size w).alloc (Nat.le_refl _) _).alloc (by simp) _).alloc (by simp; omega) _
  have s3 := hs.up b3
  have q0 := ((Rw.new w 26 #[.slice A n c, .slice R 4 d]).alloc (.cells #[.int .i64 2, .int .i64 a, .int .i64 ob, .int .i64 oc] 36)).alloc (.cells #[.slice none 0 0, .slice none 0 0] 26)
  have q1 := (Rw.new (w.alloc (.cells #[.slice A n c, .slice R 4 d] 26)) 36 #[.int .i64 2, .int .i64 a, .int .i64 ob, .int .i64 oc]).alloc (.cells #[.slice none 0 0, .slice none 0 0] 26)
  have q2 := Rw.new ((w.alloc (.cells #[.slice A n c, .slice R 4 d] 26)).alloc (.cells #[.int .i64 2, .int .i64 a, .int .i64 ob, .int .i64 oc] 36)) 26 #[.slice none 0 0, .slice none 0 0]
  simp only [World.size_alloc, Nat.add_assoc, Nat.reduceAdd] at q1 q2
  clear hlr
  go_enter Tryd.func68, Tryd.ntmps68
  go_wp2_with fail
  refine (l7Copy_any _ _ _ _ _ _ h _ s3 (by omega) (by omega) h3).mono ?_
  rintro e w1 ⟨vc, vr, rfl, ⟨rvs, own⟩, b1⟩
  replace q0 := q0.keep b1 q0.lt
  replace q1 := q1.keep b1 q1.lt
  replace q2 := q2.keep b1 q2.lt
  replace b3 := b3.trans (b1.mono b3.size)
  simp only [World.size_alloc, Nat.add_assoc, Nat.reduceAdd] at own b1
  have hsz : w.heap.size + 3 ≤ w1.heap.size := by have := b1.size; simp at this; omega
  obtain ⟨Ac, cc, Rc, dc, rfl, rfl, hcc, hdc, fA, fR⟩ := own.form
  rw [hlc] at own fA hcc ⊢
  rw [HL.out] at own fR hdc ⊢
  obtain ⟨gr, rfl, hgr1, hgr2⟩ := fR (by omega)
  have S : DoSt w (w1.alloc (.cells #[.slice Ac n cc, .slice (some ⟨gr, 0, none⟩) 4 dc] 26)) w1.heap.size #[.slice A n c, .slice R 4 d] #[.int .i64 2, .int .i64 a, .int .i64 ob, .int .i64 oc] #[.slice none 0 0, .slice none 0 0] (.slice Ac n cc) (.slice (some ⟨gr, 0, none⟩) 4 dc) rvs h :=
    ⟨own.below ((Below.refl w1.heap.size w1).alloc (Nat.le_refl _) _) (Nat.le_refl _), own.apart_new (Nat.le_refl _), Rw.new w1 _ _, q0.alloc _, q1.alloc _, q2.alloc _, b3.alloc b3.size _, hsz⟩
  clear b1 s3 h3 fR own q0 q1 q2 b3
  go_upto_region 2 with fail
  generalize w1.alloc (.cells #[.slice Ac n cc, .slice (some ⟨gr, 0, none⟩) 4 dc] 26) = w2 at S ⊢
  have hb := S.lo
  generalize w1.heap.size = b at S hb hgr2 fA ⊢
  clear hsz w1
  have y0 : w2.cell? ⟨w.heap.size + 1, 0, none⟩ = some (.int .i64 2) := S.cmd.cell 0
  have y1 : w2.cell? ⟨w.heap.size + 1, 1, none⟩ = some (.int .i64 a) := S.cmd.cell 1
  have y2 : w2.cell? ⟨w.heap.size + 1, 2, none⟩ = some (.int .i64 ob) := S.cmd.cell 2
  have y3 : w2.cell? ⟨w.heap.size + 1, 3, none⟩ = some (.int .i64 oc) := S.cmd.cell 3
  have x0 : w2.cell? ⟨b, 0, none⟩ = some (.slice Ac n cc) := S.box.cell 0
  have x1 : w2.cell? ⟨b, 1, none⟩ = some (.slice (some ⟨gr, 0, none⟩) 4 dc) := S.box.cell 1
  have hva := Hps.valid_iff.1 hv
  have ham : (a : Int) < 4 := by omega
  have AR := hs.up S.bel
  have u0 : w2.cell? ⟨w.heap.size, 0, none⟩ = some (.slice A n c) := S.arg.cell 0
  have u1 : w2.cell? ⟨w.heap.size, 1, none⟩ = some (.slice R 4 d) := S.arg.cell 1
  obtain ⟨g2, o2, x, e1, hg2, hx, d1⟩ := AR.roots.at_ (k := ob) (by omega)
  subst e1
  have hbm : (ob : Int) < 4 := by omega
  have ex : x = (k : Int) := by rw [← hk]; simp [Hps.rootAt, hx]
  subst ex
  have hkl := (List.getElem?_eq_some_iff.1 hcl).1
  obtain ⟨g3, o3, cl', A', m', cc', e3, hg3, hcl', _, _, d2, hmc, hi⟩ := AR.cells.at_ (k := k) (by omega)
  rw [hcl] at hcl'
  injection hcl' with hcl'
  subst hcl' e3
  have hil := hi.1
  obtain ⟨g4, o4, y, e4, hg4, hy, d3⟩ := hi.at_ (k := oc) (by omega)
  subst e4
  have hkn : (k : Int) < n := by omega
  have hom : (oc : Int) < m' := by omega
  have HY := Lib.hid hy
  have HC := Lib.hid hcl
  have HK := Lib.hid hk
  have SS := Lib.hid S
  clear hx S AR hva hy hcl hk hil hi hoc hkl
  go_wp2_with fail
  go_still_tail 19, (by kernel_rfl)
  change wpList _ _ _ _ _ w2.drew
  have S4 := SS.out.drew
  generalize w2.drew = w4 at S4 ⊢
  obtain ⟨xo, hxo, cr⟩ := S4.own.roots.cell_at (j := a) (by omega)
  have fz : w4.frozen? ⟨gr, a, none⟩ = false := S4.own.roots.frozen HL.out a
  have S1 := S4.root (i := a) HL.out y
  have hcl := HC.out
  have hy := HY.out
  have hk := HK.out
  have r0 : (w4.setCell ⟨gr, a, none⟩ (.int .i64 y)).cell? ⟨b, 0, none⟩ = some (.slice Ac n cc) := S1.box.cell 0
  have r1 : (w4.setCell ⟨gr, a, none⟩ (.int .i64 y)).cell? ⟨b, 1, none⟩ = some (.slice (some ⟨gr, 0, none⟩) 4 dc) := S1.box.cell 1
  have r2 : (w4.setCell ⟨gr, a, none⟩ (.int .i64 y)).frozen? ⟨w.heap.size + 1 + 1, 0, none⟩ = false := S1.res.frozen 0
  have r3 : (w4.setCell ⟨gr, a, none⟩ (.int .i64 y)).frozen? ⟨w.heap.size + 1 + 1, 1, none⟩ = false := S1.res.frozen 1
  have r4 : (w4.setCell ⟨gr, a, none⟩ (.int .i64 y)).cell? ⟨w.heap.size + 1 + 1, 0, none⟩ = some (.slice none 0 0) := S1.res.cell 0
  have r5 : (w4.setCell ⟨gr, a, none⟩ (.int .i64 y)).cell? ⟨w.heap.size + 1 + 1, 1, none⟩ = some (.slice none 0 0) := S1.res.cell 1
  have r6 : (((w4.setCell ⟨gr, a, none⟩ (.int .i64 y)).setCell ⟨w.heap.size + 1 + 1, 0, none⟩ (.slice Ac n cc)).setCell ⟨w.heap.size + 1 + 1, 1, none⟩ (.slice (some ⟨gr, 0, none⟩) 4 dc)).cell? ⟨w.heap.size + 1 + 1, 0, none⟩ = some (.slice Ac n cc) := ((S1.res.put 0 (.slice Ac n cc)).put 1 (.slice (some ⟨gr, 0, none⟩) 4 dc)).cell 0
  have r7 : (((w4.setCell ⟨gr, a, none⟩ (.int .i64 y)).setCell ⟨w.heap.size + 1 + 1, 0, none⟩ (.slice Ac n cc)).setCell ⟨w.heap.size + 1 + 1, 1, none⟩ (.slice (some ⟨gr, 0, none⟩) 4 dc)).cell? ⟨w.heap.size + 1 + 1, 1, none⟩ = some (.slice (some ⟨gr, 0, none⟩) 4 dc) := ((S1.res.put 0 (.slice Ac n cc)).put 1 (.slice (some ⟨gr, 0, none⟩) 4 dc)).cell 1
  have D : Hid (OwnH (((w4.setCell ⟨gr, a, none⟩ (.int .i64 y)).setCell ⟨w.heap.size + 1 + 1, 0, none⟩ (.slice Ac n cc)).setCell ⟨w.heap.size + 1 + 1, 1, none⟩ (.slice (some ⟨gr, 0, none⟩) 4 dc)) w.heap.size (.slice Ac n cc) (.slice (some ⟨gr, 0, none⟩) 4 dc) _ ∧ Below w.heap.size w (((w4.setCell ⟨gr, a, none⟩ (.int .i64 y)).setCell ⟨w.heap.size + 1 + 1, 0, none⟩ (.slice Ac n cc)).setCell ⟨w.heap.size + 1 + 1, 1, none⟩ (.slice (some ⟨gr, 0, none⟩) 4 dc))) := Lib.hid S1.done
  have HF := Lib.hid (show Hps.doH h ⟨2, a, ob, oc⟩ p = ⟨h.cs, h.rt.set a y⟩ by simp [Hps.doH, Hps.refAt, hk, hcl, hy])
  clear S1
  clear S4 hxo hy hcl hk
  go_wp2_with fail
  exact bodyPost_ret (v := .agg #[.slice Ac n cc, .slice (some ⟨gr, 0, none⟩) 4 dc]) (by simp [results, Tryd.results68, go_sem, *]) rfl ⟨_, _, rfl, by rw [HF.out]; exact D.out.1, D.out.2⟩
set_option maxHeartbeats 4000000 in
theorem l8Do_set (A R : Option Addr) (n c m d : Nat) (h : Hp) (a : Nat) (ob : Nat) (oc : Nat) (p : Nat) (w : World) (hs : HS w w.heap.size A n R m h) (hv : Hps.validH h = true) (ha : a < 4) (hb4 : ob < 4) (k : Nat) (cl : Cl) (hk : Hps.rootAt h a = k) (hcl : h.cs[k]? = some cl) (hoc : oc < cl.r.length) :
    Calls Tryd.prog 68 #[heapV A n c R m d, cmV ⟨3, a, ob, oc⟩, .int .i64 p] w (GaveH w (Hps.doH h ⟨3, a, ob, oc⟩ p)) := by
  have hlc := hs.cells.1
  have hlr := hs.roots.1
  have h40 := (Hps.valid_iff.1 hv).2.1
  obtain rfl : m = 4 := by rw [← hlr]; exact (Hps.valid_iff.1 hv).2.2.1
  have HL := Lib.hid hlr
  have h3 : ∀ cl ∈ h.cs, cl.r.length ≤ 1000000 := fun cl hcl => by have := (Hps.okCell_iff.1 ((Hps.valid_iff.1 hv).1 cl hcl)).2.2.1; omega
  have b3 : Below w.heap.size w (((w.alloc (.cells #[.slice A n c, .slice R 4 d] 26)).alloc (.cells #[.int .i64 3, .int .i64 a, .int .i64 ob, .int .i64 oc] 36)).alloc (.cells #[.slice none 0 0, .slice none 0 0] 26)) := (((Below.refl w.heap.size w).alloc (Nat.le_refl _) _).alloc (by simp) _).alloc (by simp; omega) _
  have s3 := hs.up b3
  have q0 := ((Rw.new w 26 #[.slice A n c, .slice R 4 d]).alloc (.cells #[.int .i64 3, .int .i64 a, .int .i64 ob, .int .i64 oc] 36)).alloc (.cells #[.slice none 0 0, .slice none 0 0] 26)
  have q1 := (Rw.new (w.alloc (.cells #[.slice A n c, .slice R 4 d] 26)) 36 #[.int .i64 3, .int .i64 a, .int .i64 ob, .int .i64 oc]).alloc (.cells #[.slice none 0 0, .slice none 0 0] 26)
  have q2 := Rw.new ((w.alloc (.cells #[.slice A n c, .slice R 4 d] 26)).alloc (.cells #[.int .i64 3, .int .i64 a, .int .i64 ob, .int .i64 oc] 36)) 26 #[.slice none 0 0, .slice none 0 0]
  simp only [World.size_alloc, Nat.add_assoc, Nat.reduceAdd] at q1 q2
  clear hlr
  go_enter Tryd.func68, Tryd.ntmps68
  go_wp2_with fail
  refine (l7Copy_any _ _ _ _ _ _ h _ s3 (by omega) (by omega) h3).mono ?_
  rintro e w1 ⟨vc, vr, rfl, ⟨rvs, own⟩, b1⟩
  replace q0 := q0.keep b1 q0.lt
  replace q1 := q1.keep b1 q1.lt
  replace q2 := q2.keep b1 q2.lt
  replace b3 := b3.trans (b1.mono b3.size)
  simp only [World.size_alloc, Nat.add_assoc, Nat.reduceAdd] at own b1
  have hsz : w.heap.size + 3 ≤ w1.heap.size := by have := b1.size; simp at this; omega
  obtain ⟨Ac, cc, Rc, dc, rfl, rfl, hcc, hdc, fA, fR⟩ := own.form
  rw [hlc] at own fA hcc ⊢
  rw [HL.out] at own fR hdc ⊢
  obtain ⟨gr, rfl, hgr1, hgr2⟩ := fR (by omega)
  have S : DoSt w (w1.alloc (.cells #[.slice Ac n cc, .slice (some ⟨gr, 0, none⟩) 4 dc] 26)) w1.heap.size #[.slice A n c, .slice R 4 d] #[.int .i64 3, .int .i64 a, .int .i64 ob, .int .i64 oc] #[.slice none 0 0, .slice none 0 0] (.slice Ac n cc) (.slice (some ⟨gr, 0, none⟩) 4 dc) rvs h :=
    ⟨own.below ((Below.refl w1.heap.size w1).alloc (Nat.le_refl _) _) (Nat.le_refl _), own.apart_new (Nat.le_refl _), Rw.new w1 _ _, q0.alloc _, q1.alloc _, q2.alloc _, b3.alloc b3.size _, hsz⟩
  clear b1 s3 h3 fR own q0 q1 q2 b3
  go_upto_region 2 with fail
  generalize w1.alloc (.cells #[.slice Ac n cc, .slice (some ⟨gr, 0, none⟩) 4 dc] 26) = w2 at S ⊢
  have hb := S.lo
  generalize w1.heap.size = b at S hb hgr2 fA ⊢
  clear hsz w1
  have y0 : w2.cell? ⟨w.heap.size + 1, 0, none⟩ = some (.int .i64 3) := S.cmd.cell 0
  have y1 : w2.cell? ⟨w.heap.size + 1, 1, none⟩ = some (.int .i64 a) := S.cmd.cell 1
  have y2 : w2.cell? ⟨w.heap.size + 1, 2, none⟩ = some (.int .i64 ob) := S.cmd.cell 2
  have y3 : w2.cell? ⟨w.heap.size + 1, 3, none⟩ = some (.int .i64 oc) := S.cmd.cell 3
  have x0 : w2.cell? ⟨b, 0, none⟩ = some (.slice Ac n cc) := S.box.cell 0
  have x1 : w2.cell? ⟨b, 1, none⟩ = some (.slice (some ⟨gr, 0, none⟩) 4 dc) := S.box.cell 1
  have hva := Hps.valid_iff.1 hv
  have ham : (a : Int) < 4 := by omega
  have AR := hs.up S.bel
  have u0 : w2.cell? ⟨w.heap.size, 0, none⟩ = some (.slice A n c) := S.arg.cell 0
  have u1 : w2.cell? ⟨w.heap.size, 1, none⟩ = some (.slice R 4 d) := S.arg.cell 1
  obtain ⟨ga, oa, xa, e1, hga, hxa, da⟩ := AR.roots.at_ (k := a) (by omega)
  obtain ⟨g2, o2, x, e2, hg2, hx, d1⟩ := AR.roots.at_ (k := ob) (by omega)
  subst e1
  injection e2 with e2
  injection e2 with e2 e3
  subst e2 e3
  have hbm : (ob : Int) < 4 := by omega
  have ex : xa = (k : Int) := by rw [← hk]; simp [Hps.rootAt, hxa]
  subst ex
  have hkl := (List.getElem?_eq_some_iff.1 hcl).1
  obtain ⟨gc, v, e4, hgc1, hgc2, hrv, hov, _, _, d2, _⟩ := S.own.cell_at hcl
  subst e4
  obtain ⟨Av, cv, rfl, fv⟩ := hov.form
  obtain ⟨gv, rfl, hgv1, hgv2⟩ := fv (by omega)
  obtain ⟨m', hm'⟩ : ∃ m', cl.r.length = m' := ⟨_, rfl⟩
  rw [hm'] at d2 hrv hov
  have hkn : (k : Int) < n := by omega
  have hom : (oc : Int) < m' := by omega
  have HX := Lib.hid hx
  have HC := Lib.hid hcl
  have HK := Lib.hid hk
  have HV := Lib.hid hrv
  have HM := Lib.hid hm'
  have SS := Lib.hid S
  clear hx hxa S AR hva hcl hk hoc hkl hrv hov hm' fv
  go_wp2_with fail
  go_still_tail 19, (by kernel_rfl)
  change wpList _ _ _ _ _ w2.drew
  have S4 := SS.out.drew
  generalize w2.drew = w4 at S4 ⊢
  obtain ⟨_, _, e5, _, _, hv5, hov5, _⟩ := S4.own.cell_at HC.out
  rw [HV.out] at hv5
  injection hv5 with hv5
  subst hv5
  obtain ⟨xo, hxo, cr⟩ := hov5.cell_at (j := oc) (by omega)
  have fz : w4.frozen? ⟨gv, oc, none⟩ = false := hov5.frozen HM.out oc
  have S1 := S4.ref1 (i := oc) HC.out HV.out HM.out x
  have hx := HX.out
  have hcl := HC.out
  have hk := HK.out
  have r0 : (w4.setCell ⟨gv, oc, none⟩ (.int .i64 x)).cell? ⟨b, 0, none⟩ = some (.slice (some ⟨gc, 0, none⟩) n cc) := S1.box.cell 0
  have r1 : (w4.setCell ⟨gv, oc, none⟩ (.int .i64 x)).cell? ⟨b, 1, none⟩ = some (.slice (some ⟨gr, 0, none⟩) 4 dc) := S1.box.cell 1
  have r2 : (w4.setCell ⟨gv, oc, none⟩ (.int .i64 x)).frozen? ⟨w.heap.size + 1 + 1, 0, none⟩ = false := S1.res.frozen 0
  have r3 : (w4.setCell ⟨gv, oc, none⟩ (.int .i64 x)).frozen? ⟨w.heap.size + 1 + 1, 1, none⟩ = false := S1.res.frozen 1
  have r4 : (w4.setCell ⟨gv, oc, none⟩ (.int .i64 x)).cell? ⟨w.heap.size + 1 + 1, 0, none⟩ = some (.slice none 0 0) := S1.res.cell 0
  have r5 : (w4.setCell ⟨gv, oc, none⟩ (.int .i64 x)).cell? ⟨w.heap.size + 1 + 1, 1, none⟩ = some (.slice none 0 0) := S1.res.cell 1
  have r6 : (((w4.setCell ⟨gv, oc, none⟩ (.int .i64 x)).setCell ⟨w.heap.size + 1 + 1, 0, none⟩ (.slice (some ⟨gc, 0, none⟩) n cc)).setCell ⟨w.heap.size + 1 + 1, 1, none⟩ (.slice (some ⟨gr, 0, none⟩) 4 dc)).cell? ⟨w.heap.size + 1 + 1, 0, none⟩ = some (.slice (some ⟨gc, 0, none⟩) n cc) := ((S1.res.put 0 (.slice (some ⟨gc, 0, none⟩) n cc)).put 1 (.slice (some ⟨gr, 0, none⟩) 4 dc)).cell 0
  have r7 : (((w4.setCell ⟨gv, oc, none⟩ (.int .i64 x)).setCell ⟨w.heap.size + 1 + 1, 0, none⟩ (.slice (some ⟨gc, 0, none⟩) n cc)).setCell ⟨w.heap.size + 1 + 1, 1, none⟩ (.slice (some ⟨gr, 0, none⟩) 4 dc)).cell? ⟨w.heap.size + 1 + 1, 1, none⟩ = some (.slice (some ⟨gr, 0, none⟩) 4 dc) := ((S1.res.put 0 (.slice (some ⟨gc, 0, none⟩) n cc)).put 1 (.slice (some ⟨gr, 0, none⟩) 4 dc)).cell 1
  have D : Hid (OwnH (((w4.setCell ⟨gv, oc, none⟩ (.int .i64 x)).setCell ⟨w.heap.size + 1 + 1, 0, none⟩ (.slice (some ⟨gc, 0, none⟩) n cc)).setCell ⟨w.heap.size + 1 + 1, 1, none⟩ (.slice (some ⟨gr, 0, none⟩) 4 dc)) w.heap.size (.slice (some ⟨gc, 0, none⟩) n cc) (.slice (some ⟨gr, 0, none⟩) 4 dc) _ ∧ Below w.heap.size w (((w4.setCell ⟨gv, oc, none⟩ (.int .i64 x)).setCell ⟨w.heap.size + 1 + 1, 0, none⟩ (.slice (some ⟨gc, 0, none⟩) n cc)).setCell ⟨w.heap.size + 1 + 1, 1, none⟩ (.slice (some ⟨gr, 0, none⟩) 4 dc))) := Lib.hid S1.done
  have HF := Lib.hid (show Hps.doH h ⟨3, a, ob, oc⟩ p = ⟨h.cs.set k ⟨cl.u, cl.d, cl.r.set oc x⟩, h.rt⟩ by simp [Hps.doH, Hps.setRef, hk, hcl]; simp [Hps.rootAt, hx])
  clear S1
  clear S4 hxo hx hcl hk e5 hov5
  go_wp2_with fail
  exact bodyPost_ret (v := .agg #[.slice (some ⟨gc, 0, none⟩) n cc, .slice (some ⟨gr, 0, none⟩) 4 dc]) (by simp [results, Tryd.results68, go_sem, *]) rfl ⟨_, _, rfl, by rw [HF.out]; exact D.out.1, D.out.2⟩
set_option maxHeartbeats 4000000 in
theorem l8Do_data (A R : Option Addr) (n c m d : Nat) (h : Hp) (a : Nat) (ob : Int) (oc : Int) (p : Nat) (w : World) (hs : HS w w.heap.size A n R m h) (hv : Hps.validH h = true) (ha : a < 4) (k : Nat) (cl : Cl) (hk : Hps.rootAt h a = k) (hcl : h.cs[k]? = some cl) :
    Calls Tryd.prog 68 #[heapV A n c R m d, cmV ⟨6, a, ob, oc⟩, .int .i64 p] w (GaveH w (Hps.doH h ⟨6, a, ob, oc⟩ p)) := by
  have hlc := hs.cells.1
  have hlr := hs.roots.1
  have h40 := (Hps.valid_iff.1 hv).2.1
  obtain rfl : m = 4 := by rw [← hlr]; exact (Hps.valid_iff.1 hv).2.2.1
  have HL := Lib.hid hlr
  have h3 : ∀ cl ∈ h.cs, cl.r.length ≤ 1000000 := fun cl hcl => by have := (Hps.okCell_iff.1 ((Hps.valid_iff.1 hv).1 cl hcl)).2.2.1; omega
  have b3 : Below w.heap.size w (((w.alloc (.cells #[.slice A n c, .slice R 4 d] 26)).alloc (.cells #[.int .i64 6, .int .i64 a, .int .i64 ob, .int .i64 oc] 36)).alloc (.cells #[.slice none 0 0, .slice none 0 0] 26)) := (((Below.refl w.heap.size w).alloc (Nat.le_refl _) _).alloc (by simp) _).alloc (by simp; omega) _
  have s3 := hs.up b3
  have q0 := ((Rw.new w 26 #[.slice A n c, .slice R 4 d]).alloc (.cells #[.int .i64 6, .int .i64 a, .int .i64 ob, .int .i64 oc] 36)).alloc (.cells #[.slice none 0 0, .slice none 0 0] 26)
  have q1 := (Rw.new (w.alloc (.cells #[.slice A n c, .slice R 4 d] 26)) 36 #[.int .i64 6, .int .i64 a, .int .i64 ob, .int .i64 oc]).alloc (.cells #[.slice none 0 0, .slice none 0 0] 26)
  have q2 := Rw.new ((w.alloc (.cells #[.slice A n c, .slice R 4 d] 26)).alloc (.cells #[.int .i64 6, .int .i64 a, .int .i64 ob, .int .i64 oc] 36)) 26 #[.slice none 0 0, .slice none 0 0]
  simp only [World.size_alloc, Nat.add_assoc, Nat.reduceAdd] at q1 q2
  clear hlr
  go_enter Tryd.func68, Tryd.ntmps68
  go_wp2_with fail
  refine (l7Copy_any _ _ _ _ _ _ h _ s3 (by omega) (by omega) h3).mono ?_
  rintro e w1 ⟨vc, vr, rfl, ⟨rvs, own⟩, b1⟩
  replace q0 := q0.keep b1 q0.lt
  replace q1 := q1.keep b1 q1.lt
  replace q2 := q2.keep b1 q2.lt
  replace b3 := b3.trans (b1.mono b3.size)
  simp only [World.size_alloc, Nat.add_assoc, Nat.reduceAdd] at own b1
  have hsz : w.heap.size + 3 ≤ w1.heap.size := by have := b1.size; simp at this; omega
  obtain ⟨Ac, cc, Rc, dc, rfl, rfl, hcc, hdc, fA, fR⟩ := own.form
  rw [hlc] at own fA hcc ⊢
  rw [HL.out] at own fR hdc ⊢
  obtain ⟨gr, rfl, hgr1, hgr2⟩ := fR (by omega)
  have S : DoSt w (w1.alloc (.cells #[.slice Ac n cc, .slice (some ⟨gr, 0, none⟩) 4 dc] 26)) w1.heap.size #[.slice A n c, .slice R 4 d] #[.int .i64 6, .int .i64 a, .int .i64 ob, .int .i64 oc] #[.slice none 0 0, .slice none 0 0] (.slice Ac n cc) (.slice (some ⟨gr, 0, none⟩) 4 dc) rvs h :=
    ⟨own.below ((Below.refl w1.heap.size w1).alloc (Nat.le_refl _) _) (Nat.le_refl _), own.apart_new (Nat.le_refl _), Rw.new w1 _ _, q0.alloc _, q1.alloc _, q2.alloc _, b3.alloc b3.size _, hsz⟩
  clear b1 s3 h3 fR own q0 q1 q2 b3
  go_upto_region 2 with fail
  generalize w1.alloc (.cells #[.slice Ac n cc, .slice (some ⟨gr, 0, none⟩) 4 dc] 26) = w2 at S ⊢
  have hb := S.lo
  generalize w1.heap.size = b at S hb hgr2 fA ⊢
  clear hsz w1
  have y0 : w2.cell? ⟨w.heap.size + 1, 0, none⟩ = some (.int .i64 6) := S.cmd.cell 0
  have y1 : w2.cell? ⟨w.heap.size + 1, 1, none⟩ = some (.int .i64 a) := S.cmd.cell 1
  have y2 : w2.cell? ⟨w.heap.size + 1, 2, none⟩ = some (.int .i64 ob) := S.cmd.cell 2
  have y3 : w2.cell? ⟨w.heap.size + 1, 3, none⟩ = some (.int .i64 oc) := S.cmd.cell 3
  have x0 : w2.cell? ⟨b, 0, none⟩ = some (.slice Ac n cc) := S.box.cell 0
  have x1 : w2.cell? ⟨b, 1, none⟩ = some (.slice (some ⟨gr, 0, none⟩) 4 dc) := S.box.cell 1
  have hva := Hps.valid_iff.1 hv
  have ham : (a : Int) < 4 := by omega
  have AR := hs.up S.bel
  have u0 : w2.cell? ⟨w.heap.size, 0, none⟩ = some (.slice A n c) := S.arg.cell 0
  have u1 : w2.cell? ⟨w.heap.size, 1, none⟩ = some (.slice R 4 d) := S.arg.cell 1
  obtain ⟨ga, oa, xa, e1, hga, hxa, da⟩ := AR.roots.at_ (k := a) (by omega)
  subst e1
  have ex : xa = (k : Int) := by rw [← hk]; simp [Hps.rootAt, hxa]
  subst ex
  have hkl := (List.getElem?_eq_some_iff.1 hcl).1
  obtain ⟨gc, v, e4, hgc1, hgc2, _⟩ := S.own.cell_at hcl
  subst e4
  have hkn : (k : Int) < n := by omega
  have HC := Lib.hid hcl
  have HK := Lib.hid hk
  have SS := Lib.hid S
  clear hxa S AR hva hcl hk hkl
  go_wp2_with fail
  go_still_tail 10, (by kernel_rfl)
  change wpList _ _ _ _ _ w2.drew
  have S4 := SS.out.drew
  generalize w2.drew = w4 at S4 ⊢
  obtain ⟨_, _, e5, _, _, _, _, _, cr, _, fz⟩ := S4.own.cell_at HC.out
  injection e5 with e5
  injection e5 with e5
  subst e5
  have fz := fz (k * 3 + 1)
  have S1 := S4.data hlc HC.out ob
  have hcl := HC.out
  have hk := HK.out
  have r0 : (w4.setCell ⟨gc, k * 3 + 1, none⟩ (.int .i64 ob)).cell? ⟨b, 0, none⟩ = some (.slice (some ⟨gc, 0, none⟩) n cc) := S1.box.cell 0
  have r1 : (w4.setCell ⟨gc, k * 3 + 1, none⟩ (.int .i64 ob)).cell? ⟨b, 1, none⟩ = some (.slice (some ⟨gr, 0, none⟩) 4 dc) := S1.box.cell 1
  have r2 : (w4.setCell ⟨gc, k * 3 + 1, none⟩ (.int .i64 ob)).frozen? ⟨w.heap.size + 1 + 1, 0, none⟩ = false := S1.res.frozen 0
  have r3 : (w4.setCell ⟨gc, k * 3 + 1, none⟩ (.int .i64 ob)).frozen? ⟨w.heap.size + 1 + 1, 1, none⟩ = false := S1.res.frozen 1
  have r4 : (w4.setCell ⟨gc, k * 3 + 1, none⟩ (.int .i64 ob)).cell? ⟨w.heap.size + 1 + 1, 0, none⟩ = some (.slice none 0 0) := S1.res.cell 0
  have r5 : (w4.setCell ⟨gc, k * 3 + 1, none⟩ (.int .i64 ob)).cell? ⟨w.heap.size + 1 + 1, 1, none⟩ = some (.slice none 0 0) := S1.res.cell 1
  have r6 : (((w4.setCell ⟨gc, k * 3 + 1, none⟩ (.int .i64 ob)).setCell ⟨w.heap.size + 1 + 1, 0, none⟩ (.slice (some ⟨gc, 0, none⟩) n cc)).setCell ⟨w.heap.size + 1 + 1, 1, none⟩ (.slice (some ⟨gr, 0, none⟩) 4 dc)).cell? ⟨w.heap.size + 1 + 1, 0, none⟩ = some (.slice (some ⟨gc, 0, none⟩) n cc) := ((S1.res.put 0 (.slice (some ⟨gc, 0, none⟩) n cc)).put 1 (.slice (some ⟨gr, 0, none⟩) 4 dc)).cell 0
  have r7 : (((w4.setCell ⟨gc, k * 3 + 1, none⟩ (.int .i64 ob)).setCell ⟨w.heap.size + 1 + 1, 0, none⟩ (.slice (some ⟨gc, 0, none⟩) n cc)).setCell ⟨w.heap.size + 1 + 1, 1, none⟩ (.slice (some ⟨gr, 0, none⟩) 4 dc)).cell? ⟨w.heap.size + 1 + 1, 1, none⟩ = some (.slice (some ⟨gr, 0, none⟩) 4 dc) := ((S1.res.put 0 (.slice (some ⟨gc, 0, none⟩) n cc)).put 1 (.slice (some ⟨gr, 0, none⟩) 4 dc)).cell 1
  have D : Hid (OwnH (((w4.setCell ⟨gc, k * 3 + 1, none⟩ (.int .i64 ob)).setCell ⟨w.heap.size + 1 + 1, 0, none⟩ (.slice (some ⟨gc, 0, none⟩) n cc)).setCell ⟨w.heap.size + 1 + 1, 1, none⟩ (.slice (some ⟨gr, 0, none⟩) 4 dc)) w.heap.size (.slice (some ⟨gc, 0, none⟩) n cc) (.slice (some ⟨gr, 0, none⟩) 4 dc) _ ∧ Below w.heap.size w (((w4.setCell ⟨gc, k * 3 + 1, none⟩ (.int .i64 ob)).setCell ⟨w.heap.size + 1 + 1, 0, none⟩ (.slice (some ⟨gc, 0, none⟩) n cc)).setCell ⟨w.heap.size + 1 + 1, 1, none⟩ (.slice (some ⟨gr, 0, none⟩) 4 dc))) := Lib.hid S1.done
  have HF := Lib.hid (show Hps.doH h ⟨6, a, ob, oc⟩ p = ⟨h.cs.set k ⟨cl.u, ob, cl.r⟩, h.rt⟩ by simp [Hps.doH, Hps.setDat, hk, hcl])
  clear S1
  clear S4 hcl hk
  go_wp2_with fail
  exact bodyPost_ret (v := .agg #[.slice (some ⟨gc, 0, none⟩) n cc, .slice (some ⟨gr, 0, none⟩) 4 dc]) (by simp [results, Tryd.results68, go_sem, *]) rfl ⟨_, _, rfl, by rw [HF.out]; exact D.out.1, D.out.2⟩
theorem Sep8 {w1 w2 : World} {b1 : Nat} {vc vr v8 : Value} {rvs : List Value} {h : Hp} {xs : List Int} (S : OwnHx w1 b1 vc vr rvs h) (o : OwnI w2 w1.heap.size v8 xs) : ∀ v ∈ vc :: vr :: rvs, v8.ownBlock = none ∨ v8.ownBlock ≠ v.ownBlock := fun v hv => by
  cases e : v8.ownBlock with
  | none => exact .inl rfl
  | some k =>
    right
    intro e'
    have h1 := (World.ownsRow.lt o k e).1
    have h2 := (S.blocks hv e'.symm).2
    omega
set_option maxHeartbeats 8000000 in
theorem l8Do_new (A R : Option Addr) (n c m d : Nat) (h : Hp) (a : Nat) (ob : Nat) (oc : Int) (p : Nat) (w : World) (hs : HS w w.heap.size A n R m h) (hv : Hps.validH h = true) (ha : a < 4) (hb3 : ob ≤ 3) (hp : p ≤ n) :
    Calls Tryd.prog 68 #[heapV A n c R m d, cmV ⟨1, a, ob, oc⟩, .int .i64 p] w (GaveH w (Hps.doH h ⟨1, a, ob, oc⟩ p)) := by
  have hlc := hs.cells.1
  have hlr := hs.roots.1
  have h40 := (Hps.valid_iff.1 hv).2.1
  obtain rfl : m = 4 := by rw [← hlr]; exact (Hps.valid_iff.1 hv).2.2.1
  have HL := Lib.hid hlr
  have h3 : ∀ cl ∈ h.cs, cl.r.length ≤ 1000000 := fun cl hcl => by have := (Hps.okCell_iff.1 ((Hps.valid_iff.1 hv).1 cl hcl)).2.2.1; omega
  have b3 : Below w.heap.size w (((w.alloc (.cells #[.slice A n c, .slice R 4 d] 26)).alloc (.cells #[.int .i64 1, .int .i64 a, .int .i64 ob, .int .i64 oc] 36)).alloc (.cells #[.slice none 0 0, .slice none 0 0] 26)) := (((Below.refl w.heap.size w).alloc (Nat.le_refl _) _).alloc (by simp) _).alloc (by simp; omega) _
  have s3 := hs.up b3
  have q0 := ((Rw.new w 26 #[.slice A n c, .slice R 4 d]).alloc (.cells #[.int .i64 1, .int .i64 a, .int .i64 ob, .int .i64 oc] 36)).alloc (.cells #[.slice none 0 0, .slice none 0 0] 26)
  have q1 := (Rw.new (w.alloc (.cells #[.slice A n c, .slice R 4 d] 26)) 36 #[.int .i64 1, .int .i64 a, .int .i64 ob, .int .i64 oc]).alloc (.cells #[.slice none 0 0, .slice none 0 0] 26)
  have q2 := Rw.new ((w.alloc (.cells #[.slice A n c, .slice R 4 d] 26)).alloc (.cells #[.int .i64 1, .int .i64 a, .int .i64 ob, .int .i64 oc] 36)) 26 #[.slice none 0 0, .slice none 0 0]
  simp only [World.size_alloc, Nat.add_assoc, Nat.reduceAdd] at q1 q2
  clear hlr
  go_enter Tryd.func68, Tryd.ntmps68
  go_wp2_with fail
  refine (l7Copy_any _ _ _ _ _ _ h _ s3 (by omega) (by omega) h3).mono ?_
  rintro e w1 ⟨vc, vr, rfl, ⟨rvs, own⟩, b1⟩
  replace q0 := q0.keep b1 q0.lt
  replace q1 := q1.keep b1 q1.lt
  replace q2 := q2.keep b1 q2.lt
  replace b3 := b3.trans (b1.mono b3.size)
  simp only [World.size_alloc, Nat.add_assoc, Nat.reduceAdd] at own b1
  have hsz : w.heap.size + 3 ≤ w1.heap.size := by have := b1.size; simp at this; omega
  obtain ⟨Ac, cc, Rc, dc, rfl, rfl, hcc, hdc, fA, fR⟩ := own.form
  rw [hlc] at own fA hcc ⊢
  rw [HL.out] at own fR hdc ⊢
  obtain ⟨gr, rfl, hgr1, hgr2⟩ := fR (by omega)
  have S : DoSt w (w1.alloc (.cells #[.slice Ac n cc, .slice (some ⟨gr, 0, none⟩) 4 dc] 26)) w1.heap.size #[.slice A n c, .slice R 4 d] #[.int .i64 1, .int .i64 a, .int .i64 ob, .int .i64 oc] #[.slice none 0 0, .slice none 0 0] (.slice Ac n cc) (.slice (some ⟨gr, 0, none⟩) 4 dc) rvs h :=
    ⟨own.below ((Below.refl w1.heap.size w1).alloc (Nat.le_refl _) _) (Nat.le_refl _), own.apart_new (Nat.le_refl _), Rw.new w1 _ _, q0.alloc _, q1.alloc _, q2.alloc _, b3.alloc b3.size _, hsz⟩
  clear b1 s3 h3 fR own q0 q1 q2 b3
  go_upto_region 2 with fail
  generalize w1.alloc (.cells #[.slice Ac n cc, .slice (some ⟨gr, 0, none⟩) 4 dc] 26) = w2 at S ⊢
  have hb := S.lo
  generalize w1.heap.size = b at S hb hgr2 fA ⊢
  clear hsz w1
  have y0 : w2.cell? ⟨w.heap.size + 1, 0, none⟩ = some (.int .i64 1) := S.cmd.cell 0
  have y1 : w2.cell? ⟨w.heap.size + 1, 1, none⟩ = some (.int .i64 a) := S.cmd.cell 1
  have y2 : w2.cell? ⟨w.heap.size + 1, 2, none⟩ = some (.int .i64 ob) := S.cmd.cell 2
  have y3 : w2.cell? ⟨w.heap.size + 1, 3, none⟩ = some (.int .i64 oc) := S.cmd.cell 3
  have x0 : w2.cell? ⟨b, 0, none⟩ = some (.slice Ac n cc) := S.box.cell 0
  have x1 : w2.cell? ⟨b, 1, none⟩ = some (.slice (some ⟨gr, 0, none⟩) 4 dc) := S.box.cell 1
  have hva := Hps.valid_iff.1 hv
  have hbl := S.box.lt
  have T0 : Rw (w2.alloc (.cells #[.bool true, .int .i64 oc, .slice none 0 0] 43)) w2.heap.size 43 #[.bool true, .int .i64 oc, .slice none 0 0] := Rw.new _ _ _
  have SS := Lib.hid S
  have B0 : Below w2.heap.size w2 (w2.alloc (.cells #[.bool true, .int .i64 oc, .slice none 0 0] 43)) := (Below.refl _ _).alloc (Nat.le_refl _) _
  clear S hva
  go_wp2_with fail
  go_loopw [9] (fun i wr => ∃ (k : Nat) (v8 : Value), k ≤ ob ∧ i = .int .i64 k ∧ OwnI wr (w2.heap.size + 1) v8 (List.replicate k (-1)) ∧ Rw wr w2.heap.size 43 #[.bool true, .int .i64 oc, v8] ∧ Below w2.heap.size w2 wr ∧ w2.heap.size + 1 ≤ wr.heap.size) (fun i _ => ob - (intOf i).toNat)
  case atStart => exact ⟨0, .slice none 0 0, by omega, rfl, World.ownsRow_nil _ _ _ _, T0, B0, by simp⟩
  case round =>
    clear T0 B0
    obtain ⟨k, v8, hk, rfl, ho, hx, bb, hsz⟩ := hrel
    have z2 : wr.cell? ⟨w.heap.size + 1, 2, none⟩ = some (.int .i64 ob) := (SS.out.up bb).cmd.cell 2
    have x2 : wr.cell? ⟨w2.heap.size, 2, none⟩ = some v8 := hx.cell 2
    obtain ⟨A8, c8, e, hA⟩ := ho.form
    have hlen : (List.replicate k (-1 : Int)).length = k := by simp
    rw [hlen] at e hA
    subst e
    by_cases hlt : k < ob
    · have hlt' : (k : Int) < ob := by omega
      have ow := World.ownsRow.alloc ho (.cells #[.int .i64 (-1)] 3)
      have rr : IS (wr.alloc (.cells #[.int .i64 (-1)] 3)) (wr.alloc (.cells #[.int .i64 (-1)] 3)).heap.size (some ⟨wr.heap.size, 0, none⟩) 1 [-1] := (own_oneI wr (-1) 0 (Nat.zero_le _)).reads
      have HSx := Lib.hid (show List.replicate k (-1 : Int) ++ [-1] = List.replicate (k + 1) (-1) by rw [List.replicate_succ'])
      clear hlen hp y0 y1 y2 y3 x0 x1
      go_wp2_with (at_builtin; refine wpList_appendI rfl (.tmp 26) (.tmp 27) rfl (w2.heap.size + 1) _ (List.replicate k (-1)) rfl ow (some ⟨wr.heap.size, 0, none⟩) 1 1 _ [-1] rfl rr (by simp; omega) (by simp; omega) ?_; intro v5 w5 o5 g5 s5; have hx5 := Rw.far (hx.alloc (.cells #[.int .i64 (-1)] 3)) g5 (row_ne ho (by omega)); have x0 := hx5.cell 2; have x3 := hx5.frozen 2; obtain ⟨A5, c5, e5, f5⟩ := o5.form; subst e5; clear f5)
      have o6 : OwnI w5 (w2.heap.size + 1) (.slice A5 (k + 1) c5) (List.replicate (k + 1) (-1)) := by
        have := OwnI.cast HSx.out o5
        simpa using this
      have b5 : Below w2.heap.size w2 w5 := (bb.alloc bb.size _).grown g5 (by simp; omega) (fun kk hk => by have := (World.ownsRow.lt ho kk hk).1; omega)
      have s5' : w2.heap.size + 1 ≤ w5.heap.size := by have := g5.size; simp at this; omega
      go_roundw
      case rel =>
        refine ⟨k + 1, .slice A5 (k + 1) c5, by omega, by go_num, ?_, hx5.put 2 _, b5.setCell (p := ⟨w2.heap.size, 2, none⟩) (by simp) _, by simpa using s5'⟩
        exact o6.far (only_put (World.grownBy.refl _ _) 2 _) (.inr fun e => row_ne o6 (by omega) e.symm)
      case measure => simp [intOf]; omega
    · obtain rfl : k = ob := by omega
      have S := SS.out.up bb
      have z0 : wr.cell? ⟨b, 0, none⟩ = some (.slice Ac n cc) := S.box.cell 0
      have t0 : wr.cell? ⟨w2.heap.size, 0, none⟩ = some (.bool true) := hx.cell 0
      have t1 : wr.cell? ⟨w2.heap.size, 1, none⟩ = some (.int .i64 oc) := hx.cell 1
      have ap8 := Sep8 SS.out.own (ho.base (base' := w2.heap.size) (by omega))
      have h8b : (Value.slice A8 k c8).ownBlock ≠ some b := fun e => by
        have := (World.ownsRow.lt ho b e).1
        omega
      have o8 : OwnI wr (w.heap.size + 3) (.slice A8 k c8) (List.replicate k (-1)) := ho.base (by omega)
      clear hlen hA y0 y1 y2 y3 x0 x1
      by_cases hpn : p = n
      · subst hpn
        have own' := World.ownsRow.alloc S.own.row (.cells #[.bool true, .int .i64 oc, .slice A8 k c8] 43)
        rw [hlc] at own'
        have rr := Rw.new wr 43 #[.bool true, .int .i64 oc, .slice A8 k c8]
        have B1 : Below wr.heap.size wr (wr.alloc (.cells #[.bool true, .int .i64 oc, .slice A8 k c8] 43)) := (Below.refl _ _).alloc (Nat.le_refl _) _
        have SB := S.up B1
        have o8' := o8.below B1 (Nat.le_refl _)
        have hlo := S.lo
        have hbsz := S.bel.size
        have hsz3 : w.heap.size + 3 ≤ wr.heap.size := by have := S.box.lt; omega
        have GO := Lib.hid (fun v9 w9 (g9 : (wr.alloc (.cells #[.bool true, .int .i64 oc, .slice A8 k c8] 43)).grownBy w9 (Value.slice Ac p cc).ownBlock) o9 s9 => SB.snoc (cl := ⟨true, oc, List.replicate k (-1)⟩) (v9 := v9) (w1 := w9) g9 (by rw [hlc]; exact o9) s9 o8' ap8 h8b)
        have FB := Lib.hid (fun w9 (g9 : (wr.alloc (.cells #[.bool true, .int .i64 oc, .slice A8 k c8] 43)).grownBy w9 (Value.slice Ac p cc).ownBlock) => Rw.far SB.box g9 (fun e => by
          rcases SB.apart _ (List.mem_cons_self) with e' | e'
          · rw [e'] at e; cases e
          · exact e' e.symm))
        clear S SB o8 o8' ho ap8 B1 hx bb
        go_upto_region 12 with (at_builtin; refine wpList_appendC rfl (.tmp 36) (.tmp 38) rfl (w.heap.size + 3) _ p (flatC h.cs rvs) rfl own' wr.heap.size true oc A8 k c8 rfl rr (by omega) (by simp; omega) ?_; intro v9 w9 A9 c9 e9 o9 g9 s9; subst e9; have SN := GO.out _ w9 g9 o9 s9; have z9 := (FB.out w9 g9).cell 0; have f9 := (FB.out w9 g9).frozen 0; clear o9 g9 s9)
        generalize w9.setCell ⟨b, 0, none⟩ (.slice A9 (p + 1) c9) = w5 at SN ⊢
        clear z9 f9 GO FB own' rr z0 t0 t1
        have v1 : w5.cell? ⟨b, 1, none⟩ = some (.slice (some ⟨gr, 0, none⟩) 4 dc) := SN.box.cell 1
        have v2 : w5.cell? ⟨w.heap.size + 1, 1, none⟩ = some (.int .i64 a) := SN.cmd.cell 1
        obtain ⟨xo, hxo, cr⟩ := SN.own.roots.cell_at (j := a) (by omega)
        have fz : w5.frozen? ⟨gr, a, none⟩ = false := SN.own.roots.frozen HL.out a
        have ham : (a : Int) < 4 := by omega
        have S1 := SN.root (i := a) HL.out p
        have r0 : (w5.setCell ⟨gr, a, none⟩ (.int .i64 p)).cell? ⟨b, 0, none⟩ = some (.slice A9 (p + 1) c9) := S1.box.cell 0
        have r1 : (w5.setCell ⟨gr, a, none⟩ (.int .i64 p)).cell? ⟨b, 1, none⟩ = some (.slice (some ⟨gr, 0, none⟩) 4 dc) := S1.box.cell 1
        have r2 : (w5.setCell ⟨gr, a, none⟩ (.int .i64 p)).frozen? ⟨w.heap.size + 1 + 1, 0, none⟩ = false := S1.res.frozen 0
        have r3 : (w5.setCell ⟨gr, a, none⟩ (.int .i64 p)).frozen? ⟨w.heap.size + 1 + 1, 1, none⟩ = false := S1.res.frozen 1
        have r4 : (w5.setCell ⟨gr, a, none⟩ (.int .i64 p)).cell? ⟨w.heap.size + 1 + 1, 0, none⟩ = some (.slice none 0 0) := S1.res.cell 0
        have r5 : (w5.setCell ⟨gr, a, none⟩ (.int .i64 p)).cell? ⟨w.heap.size + 1 + 1, 1, none⟩ = some (.slice none 0 0) := S1.res.cell 1
        have r6 : (((w5.setCell ⟨gr, a, none⟩ (.int .i64 p)).setCell ⟨w.heap.size + 1 + 1, 0, none⟩ (.slice A9 (p + 1) c9)).setCell ⟨w.heap.size + 1 + 1, 1, none⟩ (.slice (some ⟨gr, 0, none⟩) 4 dc)).cell? ⟨w.heap.size + 1 + 1, 0, none⟩ = some (.slice A9 (p + 1) c9) := ((S1.res.put 0 (.slice A9 (p + 1) c9)).put 1 (.slice (some ⟨gr, 0, none⟩) 4 dc)).cell 0
        have r7 : (((w5.setCell ⟨gr, a, none⟩ (.int .i64 p)).setCell ⟨w.heap.size + 1 + 1, 0, none⟩ (.slice A9 (p + 1) c9)).setCell ⟨w.heap.size + 1 + 1, 1, none⟩ (.slice (some ⟨gr, 0, none⟩) 4 dc)).cell? ⟨w.heap.size + 1 + 1, 1, none⟩ = some (.slice (some ⟨gr, 0, none⟩) 4 dc) := ((S1.res.put 0 (.slice A9 (p + 1) c9)).put 1 (.slice (some ⟨gr, 0, none⟩) 4 dc)).cell 1
        have D : Hid (OwnH (((w5.setCell ⟨gr, a, none⟩ (.int .i64 p)).setCell ⟨w.heap.size + 1 + 1, 0, none⟩ (.slice A9 (p + 1) c9)).setCell ⟨w.heap.size + 1 + 1, 1, none⟩ (.slice (some ⟨gr, 0, none⟩) 4 dc)) w.heap.size (.slice A9 (p + 1) c9) (.slice (some ⟨gr, 0, none⟩) 4 dc) _ ∧ Below w.heap.size w (((w5.setCell ⟨gr, a, none⟩ (.int .i64 p)).setCell ⟨w.heap.size + 1 + 1, 0, none⟩ (.slice A9 (p + 1) c9)).setCell ⟨w.heap.size + 1 + 1, 1, none⟩ (.slice (some ⟨gr, 0, none⟩) 4 dc))) := Lib.hid S1.done
        have HF := Lib.hid (show Hps.doH h ⟨1, a, k, oc⟩ p = ⟨h.cs ++ [⟨true, oc, List.replicate k (-1)⟩], h.rt.set a p⟩ by simp [Hps.doH, Hps.putCl, Hps.newCl, hlc]; try omega)
        clear S1
        clear SN hxo
        go_wp2_with fail
        exact bodyPost_ret (v := .agg #[.slice A9 (p + 1) c9, .slice (some ⟨gr, 0, none⟩) 4 dc]) (by simp [results, Tryd.results68, go_sem, *]) rfl ⟨_, _, rfl, by rw [HF.out]; exact D.out.1, D.out.2⟩
      · obtain ⟨old, hold⟩ : ∃ old, h.cs[p]? = some old := ⟨_, List.getElem?_eq_getElem (show p < h.cs.length by omega)⟩
        obtain ⟨gc, v, e4, hgc1, hgc2, _, _, c0, c1, c2, fzc⟩ := S.own.cell_at hold
        subst e4
        have f0 := fzc (p * 3)
        have f1 := fzc (p * 3 + 1)
        have f2 := fzc (p * 3 + 2)
        have SN := S.cellN hlc (cl := ⟨true, oc, List.replicate k (-1)⟩) hold o8 ap8 (.inr h8b)
        have hpn' : (p : Int) < n := by omega
        have hpne : ¬ (p : Int) = n := by omega
        have hpb : ((p : Int) == n) = false := by rw [beq_eq_false_iff_ne]; exact hpne
        have hplt := (List.getElem?_eq_some_iff.1 hold).1
        clear S o8 ho ap8 hold fzc hx bb
        go_upto_region 12 with fail
        generalize ((wr.setCell ⟨gc, p * 3, none⟩ (.bool true)).setCell ⟨gc, p * 3 + 1, none⟩ (.int .i64 oc)).setCell ⟨gc, p * 3 + 2, none⟩ (.slice A8 k c8) = w5 at SN ⊢
        clear c0 c1 c2 f0 f1 f2 z0 t0 t1
        have v1 : w5.cell? ⟨b, 1, none⟩ = some (.slice (some ⟨gr, 0, none⟩) 4 dc) := SN.box.cell 1
        have v2 : w5.cell? ⟨w.heap.size + 1, 1, none⟩ = some (.int .i64 a) := SN.cmd.cell 1
        obtain ⟨xo, hxo, cr⟩ := SN.own.roots.cell_at (j := a) (by omega)
        have fz : w5.frozen? ⟨gr, a, none⟩ = false := SN.own.roots.frozen HL.out a
        have ham : (a : Int) < 4 := by omega
        have S1 := SN.root (i := a) HL.out p
        have r0 : (w5.setCell ⟨gr, a, none⟩ (.int .i64 p)).cell? ⟨b, 0, none⟩ = some (.slice (some ⟨gc, 0, none⟩) n cc) := S1.box.cell 0
        have r1 : (w5.setCell ⟨gr, a, none⟩ (.int .i64 p)).cell? ⟨b, 1, none⟩ = some (.slice (some ⟨gr, 0, none⟩) 4 dc) := S1.box.cell 1
        have r2 : (w5.setCell ⟨gr, a, none⟩ (.int .i64 p)).frozen? ⟨w.heap.size + 1 + 1, 0, none⟩ = false := S1.res.frozen 0
        have r3 : (w5.setCell ⟨gr, a, none⟩ (.int .i64 p)).frozen? ⟨w.heap.size + 1 + 1, 1, none⟩ = false := S1.res.frozen 1
        have r4 : (w5.setCell ⟨gr, a, none⟩ (.int .i64 p)).cell? ⟨w.heap.size + 1 + 1, 0, none⟩ = some (.slice none 0 0) := S1.res.cell 0
        have r5 : (w5.setCell ⟨gr, a, none⟩ (.int .i64 p)).cell? ⟨w.heap.size + 1 + 1, 1, none⟩ = some (.slice none 0 0) := S1.res.cell 1
        have r6 : (((w5.setCell ⟨gr, a, none⟩ (.int .i64 p)).setCell ⟨w.heap.size + 1 + 1, 0, none⟩ (.slice (some ⟨gc, 0, none⟩) n cc)).setCell ⟨w.heap.size + 1 + 1, 1, none⟩ (.slice (some ⟨gr, 0, none⟩) 4 dc)).cell? ⟨w.heap.size + 1 + 1, 0, none⟩ = some (.slice (some ⟨gc, 0, none⟩) n cc) := ((S1.res.put 0 (.slice (some ⟨gc, 0, none⟩) n cc)).put 1 (.slice (some ⟨gr, 0, none⟩) 4 dc)).cell 0
        have r7 : (((w5.setCell ⟨gr, a, none⟩ (.int .i64 p)).setCell ⟨w.heap.size + 1 + 1, 0, none⟩ (.slice (some ⟨gc, 0, none⟩) n cc)).setCell ⟨w.heap.size + 1 + 1, 1, none⟩ (.slice (some ⟨gr, 0, none⟩) 4 dc)).cell? ⟨w.heap.size + 1 + 1, 1, none⟩ = some (.slice (some ⟨gr, 0, none⟩) 4 dc) := ((S1.res.put 0 (.slice (some ⟨gc, 0, none⟩) n cc)).put 1 (.slice (some ⟨gr, 0, none⟩) 4 dc)).cell 1
        have D : Hid (OwnH (((w5.setCell ⟨gr, a, none⟩ (.int .i64 p)).setCell ⟨w.heap.size + 1 + 1, 0, none⟩ (.slice (some ⟨gc, 0, none⟩) n cc)).setCell ⟨w.heap.size + 1 + 1, 1, none⟩ (.slice (some ⟨gr, 0, none⟩) 4 dc)) w.heap.size (.slice (some ⟨gc, 0, none⟩) n cc) (.slice (some ⟨gr, 0, none⟩) 4 dc) _ ∧ Below w.heap.size w (((w5.setCell ⟨gr, a, none⟩ (.int .i64 p)).setCell ⟨w.heap.size + 1 + 1, 0, none⟩ (.slice (some ⟨gc, 0, none⟩) n cc)).setCell ⟨w.heap.size + 1 + 1, 1, none⟩ (.slice (some ⟨gr, 0, none⟩) 4 dc))) := Lib.hid S1.done
        have HF := Lib.hid (show Hps.doH h ⟨1, a, k, oc⟩ p = ⟨h.cs.set p ⟨true, oc, List.replicate k (-1)⟩, h.rt.set a p⟩ by simp [Hps.doH, Hps.putCl, Hps.newCl, hlc]; try omega)
        clear S1
        clear SN hxo
        go_wp2_with fail
        exact bodyPost_ret (v := .agg #[.slice (some ⟨gc, 0, none⟩) n cc, .slice (some ⟨gr, 0, none⟩) 4 dc]) (by simp [results, Tryd.results68, go_sem, *]) rfl ⟨_, _, rfl, by rw [HF.out]; exact D.out.1, D.out.2⟩
theorem l8Do_any (A R : Option Addr) (n c m d : Nat) (h : Hp) (o : Cm) (p : Nat) (w : World) (hs : HS w w.heap.size A n R m h) (hc : Hps.canH h o = true) (hp : o.op = 1 → p ≤ n) :
    Calls Tryd.prog 68 #[heapV A n c R m d, cmV o, .int .i64 p] w (GaveH w (Hps.doH h o p)) := by
  obtain ⟨hv, ho⟩ := Hps.canH_parts hc
  obtain ⟨op, a, b, cc⟩ := o
  obtain ⟨ha1, ha2⟩ := Hps.okCm_a ho
  obtain ⟨a, rfl⟩ := Int.eq_ofNat_of_zero_le ha1
  have ha : a < 4 := by simp only at ha2; omega
  rcases Hps.okCm_op ho with e | e | e | e | e | e <;> simp only at e <;> subst e
  · obtain ⟨_, hb, _⟩ := (Hps.okCm_new rfl).1 ho
    simp only at hb
    obtain ⟨b, rfl⟩ := Int.eq_ofNat_of_zero_le hb.1
    exact l8Do_new A R n c m d h a b cc p w hs hv ha (by omega) (hp rfl)
  · obtain ⟨_, hb, hcc⟩ := (Hps.okCm_get (.inl rfl)).1 ho
    rw [Hps.canH_get hv ho rfl] at hc
    simp only at hb hcc hc
    obtain ⟨b, rfl⟩ := Int.eq_ofNat_of_zero_le hb.1
    obtain ⟨cc, rfl⟩ := Int.eq_ofNat_of_zero_le hcc.1
    obtain ⟨k, cl, hk, hcl, hl⟩ := Hps.placeH_iff.1 hc
    exact l8Do_get A R n c m d h a b cc p w hs hv ha (by omega) k cl hk hcl (by omega)
  · obtain ⟨_, hb, hcc⟩ := (Hps.okCm_get (.inr rfl)).1 ho
    rw [Hps.canH_set hv ho rfl] at hc
    simp only at hb hcc hc
    obtain ⟨b, rfl⟩ := Int.eq_ofNat_of_zero_le hb.1
    obtain ⟨cc, rfl⟩ := Int.eq_ofNat_of_zero_le hcc.1
    obtain ⟨k, cl, hk, hcl, hl⟩ := Hps.placeH_iff.1 hc
    exact l8Do_set A R n c m d h a b cc p w hs hv ha (by omega) k cl hk hcl (by omega)
  · obtain ⟨_, hb, _⟩ := (Hps.okCm_copy rfl).1 ho
    simp only at hb
    obtain ⟨b, rfl⟩ := Int.eq_ofNat_of_zero_le hb.1
    exact l8Do_copy A R n c m d h a b cc p w hs hv ha (by omega)
  · exact l8Do_drop A R n c m d h a b cc p w hs hv ha
  · rw [Hps.canH_data hv ho rfl] at hc
    obtain ⟨k, hk, hk2, _⟩ := Hps.okRef_nat (Hps.root_ok hv _) (of_decide_eq_true hc)
    exact l8Do_data A R n c m d h a b cc p w hs hv ha k _ hk (List.getElem?_eq_getElem hk2)
end Go.Proofs.YtfgdenmlfloloaaDoor

namespace Go.Proofs.YtfgdenmlfloloaaDoor
open Go.RowKit
set_option maxRecDepth 100000
/-- a heap of the call's own, and a bool -/
def GaveH2 (w : World) (h : Hp) (ok : Bool) (e : Ending) (w' : World) : Prop := ∃ vc vr, e = .returned (.tuple #[.agg #[vc, vr], .bool ok]) ∧ OwnH w' w.heap.size vc vr h ∧ Below w.heap.size w w'
theorem own_zeroH (w : World) (base : Nat) (_hb : base ≤ w.heap.size) : OwnH w base (.slice none 0 0) (.slice none 0 0) Hps.zeroH := by
  refine ⟨[], rfl, World.ownsRow_nil _ _ _ _, fun k c v hc => by simp [Hps.zeroH] at hc, World.ownsRow_nil _ _ _ _, ?_⟩
  simp [Sep, Value.ownBlock]
/-- a heap of the call's own goes into the box of a result -/
theorem OwnH.out {w wr : World} {base g : Nat} {vc vr : Value} {h : Hp} (ho : OwnH wr base vc vr h) (hg : g < base) (hb : Below w.heap.size w wr) (hw : w.heap.size ≤ g) :
    OwnH ((wr.setCell ⟨g, 0, none⟩ vc).setCell ⟨g, 1, none⟩ vr) w.heap.size vc vr h ∧ Below w.heap.size w ((wr.setCell ⟨g, 0, none⟩ vc).setCell ⟨g, 1, none⟩ vr) := by
  obtain ⟨rvs, own⟩ := ho
  have ap : Apart (some g) (vc :: vr :: rvs) := own.apart_below hg
  exact ⟨⟨rvs, ((own.far (put_any wr g 0 vc) ap).far (put_any _ g 1 vr) ap).base (by omega)⟩, (hb.setCell (p := ⟨g, 0, none⟩) hw vc).setCell (p := ⟨g, 1, none⟩) hw vr⟩
theorem OwnH.base {w : World} {base base' : Nat} {vc vr : Value} {h : Hp} (ho : OwnH w base vc vr h) (hb : base' ≤ base) : OwnH w base' vc vr h := by
  obtain ⟨rvs, own⟩ := ho
  exact ⟨rvs, own.base hb⟩
theorem OwnH.below {w w' : World} {base B : Nat} {vc vr : Value} {h : Hp} (ho : OwnH w base vc vr h) (hb : Below B w w') (hB : w.heap.size ≤ B) : OwnH w' base vc vr h := by
  obtain ⟨rvs, own⟩ := ho
  exact ⟨rvs, own.below hb hB⟩
theorem OwnH.form {w : World} {base : Nat} {vc vr : Value} {h : Hp} (ho : OwnH w base vc vr h) : ∃ A c R d, vc = .slice A h.cs.length c ∧ vr = .slice R h.rt.length d ∧ HS w w.heap.size A h.cs.length R h.rt.length h := by
  obtain ⟨rvs, own⟩ := ho
  obtain ⟨A, c, R, d, rfl, rfl, _⟩ := own.form
  exact ⟨A, c, R, d, rfl, rfl, own.reads⟩
theorem OwnH.slices {w : World} {base : Nat} {vc vr : Value} {h : Hp} (ho : OwnH w base vc vr h) : ∃ A n c R m d, vc = .slice A n c ∧ vr = .slice R m d := by
  obtain ⟨A, c, R, d, e1, e2, _⟩ := ho.form
  exact ⟨A, _, c, R, _, d, e1, e2⟩
namespace Hps
theorem stepH_no {h : Hp} {o : Cm} (e : validH h = false ∨ okCm o = false) : stepH h o = (zeroH, false) := by
  unfold stepH
  rcases e with e | e <;> simp [e]
theorem stepH_cannot {h : Hp} {o : Cm} (h1 : validH h = true) (h2 : okCm o = true) (h3 : canH h o = false) : stepH h o = (h, false) := by simp [stepH, h1, h2, h3]
theorem stepH_full {h : Hp} {o : Cm} (h1 : validH h = true) (h2 : okCm o = true) (h3 : o.op = 1) (h4 : h.cs.length = 40) : stepH h o = (h, false) := by simp [stepH, h1, h2, h3, h4]
theorem stepH_does {h : Hp} {o : Cm} (h1 : validH h = true) (h2 : okCm o = true) (h3 : canH h o = true) (h4 : ¬ (o.op = 1 ∧ h.cs.length = 40)) : stepH h o = (doH h o h.cs.length, true) := by
  simp [stepH, h1, h2, h3]
  intro h5 h6
  exact h4 ⟨h5, h6⟩
end Hps
set_option maxHeartbeats 4000000 in
theorem mStepHeap_any (A R : Option Addr) (n c m d : Nat) (h : Hp) (o : Cm) (w : World) (hs : HS w w.heap.size A n R m h) (hn : n ≤ 1099511627776) (hm : m ≤ 1099511627776) :
    Calls Tryd.prog 120 #[heapV A n c R m d, cmV o] w (GaveH2 w (Hps.stepH h o).1 (Hps.stepH h o).2) := by
  have b2 : Below w.heap.size w (((w.alloc (.cells #[.slice A n c, .slice R m d] 26)).alloc (.cells #[.int .i64 o.op, .int .i64 o.a, .int .i64 o.b, .int .i64 o.c] 36)).alloc (.cells #[.slice none 0 0, .slice none 0 0] 26)) := (((Below.refl w.heap.size w).alloc (Nat.le_refl _) _).alloc (by simp) _).alloc (by simp; omega) _
  have s2 := hs.up b2
  have q1 := ((Rw.new w 26 #[.slice A n c, .slice R m d]).alloc (.cells #[.int .i64 o.op, .int .i64 o.a, .int .i64 o.b, .int .i64 o.c] 36)).alloc (.cells #[.slice none 0 0, .slice none 0 0] 26)
  have q2 := (Rw.new (w.alloc (.cells #[.slice A n c, .slice R m d] 26)) 36 #[.int .i64 o.op, .int .i64 o.a, .int .i64 o.b, .int .i64 o.c]).alloc (.cells #[.slice none 0 0, .slice none 0 0] 26)
  have q3 := Rw.new ((w.alloc (.cells #[.slice A n c, .slice R m d] 26)).alloc (.cells #[.int .i64 o.op, .int .i64 o.a, .int .i64 o.b, .int .i64 o.c] 36)) 26 #[.slice none 0 0, .slice none 0 0]
  simp only [World.size_alloc] at q2 q3
  go_enter Tryd.func120, Tryd.ntmps120
  go_wp2_with fail
  refine (mHeapValid_any _ _ _ _ _ _ h _ s2 hn hm).mono ?_
  rintro e w1 ⟨rfl, b1⟩
  replace q1 := q1.keep b1 q1.lt
  replace q2 := q2.keep b1 q2.lt
  replace q3 := q3.keep b1 q3.lt
  replace b2 := b2.trans (b1.mono b2.size)
  clear b1 s2
  cases hv : Hps.validH h
  · have HF := Lib.hid (Hps.stepH_no (o := o) (.inl hv))
    have r2 : (w1).frozen? ⟨w.heap.size + 1 + 1, 0, none⟩ = false := q3.frozen 0
    have r3 : (w1).frozen? ⟨w.heap.size + 1 + 1, 1, none⟩ = false := q3.frozen 1
    have r4 : (w1).cell? ⟨w.heap.size + 1 + 1, 0, none⟩ = some (.slice none 0 0) := q3.cell 0
    have r5 : (w1).cell? ⟨w.heap.size + 1 + 1, 1, none⟩ = some (.slice none 0 0) := q3.cell 1
    have r6 : (((w1).setCell ⟨w.heap.size + 1 + 1, 0, none⟩ (.slice none 0 0)).setCell ⟨w.heap.size + 1 + 1, 1, none⟩ (.slice none 0 0)).cell? ⟨w.heap.size + 1 + 1, 0, none⟩ = some (.slice none 0 0) := ((q3.put 0 (.slice none 0 0)).put 1 (.slice none 0 0)).cell 0
    have r7 : (((w1).setCell ⟨w.heap.size + 1 + 1, 0, none⟩ (.slice none 0 0)).setCell ⟨w.heap.size + 1 + 1, 1, none⟩ (.slice none 0 0)).cell? ⟨w.heap.size + 1 + 1, 1, none⟩ = some (.slice none 0 0) := ((q3.put 0 (.slice none 0 0)).put 1 (.slice none 0 0)).cell 1
    have D : Hid (OwnH (((w1).setCell ⟨w.heap.size + 1 + 1, 0, none⟩ (.slice none 0 0)).setCell ⟨w.heap.size + 1 + 1, 1, none⟩ (.slice none 0 0)) w.heap.size (.slice none 0 0) (.slice none 0 0) Hps.zeroH ∧ Below w.heap.size w (((w1).setCell ⟨w.heap.size + 1 + 1, 0, none⟩ (.slice none 0 0)).setCell ⟨w.heap.size + 1 + 1, 1, none⟩ (.slice none 0 0))) := Lib.hid ((own_zeroH w1 w1.heap.size (Nat.le_refl _)).out q3.lt b2 (by omega))
    clear q1 q2 q3 b2
    go_wp2_with fail
    exact bodyPost_ret (v := .tuple #[.agg #[.slice none 0 0, .slice none 0 0], .bool false]) (by simp [results, Tryd.results120, go_sem, *]) rfl ⟨_, _, by rw [HF.out], by rw [HF.out]; exact D.out.1, D.out.2⟩
  have s2 := hs.up b2
  have z0 : w1.cell? ⟨w.heap.size + 1, 0, none⟩ = some (.int .i64 o.op) := q2.cell 0
  have z1 : w1.cell? ⟨w.heap.size + 1, 1, none⟩ = some (.int .i64 o.a) := q2.cell 1
  have z2 : w1.cell? ⟨w.heap.size + 1, 2, none⟩ = some (.int .i64 o.b) := q2.cell 2
  have z3 : w1.cell? ⟨w.heap.size + 1, 3, none⟩ = some (.int .i64 o.c) := q2.cell 3
  go_wp2_with fail
  refine (mCommandValid_any o _).mono ?_
  rintro e w3 ⟨rfl, b1⟩
  replace q1 := q1.keep b1 q1.lt
  replace q2 := q2.keep b1 q2.lt
  replace q3 := q3.keep b1 q3.lt
  replace b2 := b2.trans (b1.mono b2.size)
  clear b1 s2 z0 z1 z2 z3
  cases ho : Hps.okCm o
  · have HF := Lib.hid (Hps.stepH_no (h := h) (.inr ho))
    have r2 : (w3).frozen? ⟨w.heap.size + 1 + 1, 0, none⟩ = false := q3.frozen 0
    have r3 : (w3).frozen? ⟨w.heap.size + 1 + 1, 1, none⟩ = false := q3.frozen 1
    have r4 : (w3).cell? ⟨w.heap.size + 1 + 1, 0, none⟩ = some (.slice none 0 0) := q3.cell 0
    have r5 : (w3).cell? ⟨w.heap.size + 1 + 1, 1, none⟩ = some (.slice none 0 0) := q3.cell 1
    have r6 : (((w3).setCell ⟨w.heap.size + 1 + 1, 0, none⟩ (.slice none 0 0)).setCell ⟨w.heap.size + 1 + 1, 1, none⟩ (.slice none 0 0)).cell? ⟨w.heap.size + 1 + 1, 0, none⟩ = some (.slice none 0 0) := ((q3.put 0 (.slice none 0 0)).put 1 (.slice none 0 0)).cell 0
    have r7 : (((w3).setCell ⟨w.heap.size + 1 + 1, 0, none⟩ (.slice none 0 0)).setCell ⟨w.heap.size + 1 + 1, 1, none⟩ (.slice none 0 0)).cell? ⟨w.heap.size + 1 + 1, 1, none⟩ = some (.slice none 0 0) := ((q3.put 0 (.slice none 0 0)).put 1 (.slice none 0 0)).cell 1
    have D : Hid (OwnH (((w3).setCell ⟨w.heap.size + 1 + 1, 0, none⟩ (.slice none 0 0)).setCell ⟨w.heap.size + 1 + 1, 1, none⟩ (.slice none 0 0)) w.heap.size (.slice none 0 0) (.slice none 0 0) Hps.zeroH ∧ Below w.heap.size w (((w3).setCell ⟨w.heap.size + 1 + 1, 0, none⟩ (.slice none 0 0)).setCell ⟨w.heap.size + 1 + 1, 1, none⟩ (.slice none 0 0))) := Lib.hid ((own_zeroH w3 w3.heap.size (Nat.le_refl _)).out q3.lt b2 (by omega))
    clear q1 q2 q3 b2
    go_wp2_with fail
    exact bodyPost_ret (v := .tuple #[.agg #[.slice none 0 0, .slice none 0 0], .bool false]) (by simp [results, Tryd.results120, go_sem, *]) rfl ⟨_, _, by rw [HF.out], by rw [HF.out]; exact D.out.1, D.out.2⟩
  have s2 := hs.up b2
  have x0 : w3.cell? ⟨w.heap.size, 0, none⟩ = some (.slice A n c) := q1.cell 0
  have x1 : w3.cell? ⟨w.heap.size, 1, none⟩ = some (.slice R m d) := q1.cell 1
  have z0 : w3.cell? ⟨w.heap.size + 1, 0, none⟩ = some (.int .i64 o.op) := q2.cell 0
  have z1 : w3.cell? ⟨w.heap.size + 1, 1, none⟩ = some (.int .i64 o.a) := q2.cell 1
  have z2 : w3.cell? ⟨w.heap.size + 1, 2, none⟩ = some (.int .i64 o.b) := q2.cell 2
  have z3 : w3.cell? ⟨w.heap.size + 1, 3, none⟩ = some (.int .i64 o.c) := q2.cell 3
  go_wp2_with fail
  refine (mCommandPossible_any _ _ _ _ _ _ h o _ s2 hn hm).mono ?_
  rintro e w4 ⟨rfl, b1⟩
  replace q1 := q1.keep b1 q1.lt
  replace q2 := q2.keep b1 q2.lt
  replace q3 := q3.keep b1 q3.lt
  replace b2 := b2.trans (b1.mono b2.size)
  clear b1 s2 z0 z1 z2 z3 x0 x1
  have s2 := hs.up b2
  have x0 : w4.cell? ⟨w.heap.size, 0, none⟩ = some (.slice A n c) := q1.cell 0
  have x1 : w4.cell? ⟨w.heap.size, 1, none⟩ = some (.slice R m d) := q1.cell 1
  have z0 : w4.cell? ⟨w.heap.size + 1, 0, none⟩ = some (.int .i64 o.op) := q2.cell 0
  have z1 : w4.cell? ⟨w.heap.size + 1, 1, none⟩ = some (.int .i64 o.a) := q2.cell 1
  have z2 : w4.cell? ⟨w.heap.size + 1, 2, none⟩ = some (.int .i64 o.b) := q2.cell 2
  have z3 : w4.cell? ⟨w.heap.size + 1, 3, none⟩ = some (.int .i64 o.c) := q2.cell 3
  have h40 := (Hps.valid_iff.1 hv).2.1
  have hr4 := (Hps.valid_iff.1 hv).2.2.1
  have hlc := hs.cells.1
  have hlr := hs.roots.1
  have hn4 : n ≤ 40 := by omega
  have hm4 : m ≤ 4 := by omega
  have HL := Lib.hid hlc
  have H3 := Lib.hid (fun cl (hcl : cl ∈ h.cs) => show cl.r.length ≤ 1000000 by have := (Hps.okCell_iff.1 ((Hps.valid_iff.1 hv).1 cl hcl)).2.2.1; omega)
  clear h40 hr4 hlr hlc
  have hsz : w.heap.size + 3 ≤ w4.heap.size := by have := q3.lt; omega
  cases hc : Hps.canH h o
  · have HF := Lib.hid (Hps.stepH_cannot hv ho hc)
    clear hv ho hc
    go_wp2_with fail
    refine (l7Copy_any _ _ _ _ _ _ h _ s2 (by omega) (by omega) H3.out).mono ?_
    rintro e w5 ⟨vc, vr, rfl, oh, b1⟩
    obtain ⟨A5, n5, c5, R5, m5, d5, rfl, rfl⟩ := oh.slices
    replace q3 := q3.keep b1 q3.lt
    have b3 := b2.trans (b1.mono b2.size)
    replace oh := oh.base (base' := w.heap.size + 3) hsz
    have r2 : (w5).frozen? ⟨w.heap.size + 1 + 1, 0, none⟩ = false := q3.frozen 0
    have r3 : (w5).frozen? ⟨w.heap.size + 1 + 1, 1, none⟩ = false := q3.frozen 1
    have r4 : (w5).cell? ⟨w.heap.size + 1 + 1, 0, none⟩ = some (.slice none 0 0) := q3.cell 0
    have r5 : (w5).cell? ⟨w.heap.size + 1 + 1, 1, none⟩ = some (.slice none 0 0) := q3.cell 1
    have r6 : (((w5).setCell ⟨w.heap.size + 1 + 1, 0, none⟩ (.slice A5 n5 c5)).setCell ⟨w.heap.size + 1 + 1, 1, none⟩ (.slice R5 m5 d5)).cell? ⟨w.heap.size + 1 + 1, 0, none⟩ = some (.slice A5 n5 c5) := ((q3.put 0 (.slice A5 n5 c5)).put 1 (.slice R5 m5 d5)).cell 0
    have r7 : (((w5).setCell ⟨w.heap.size + 1 + 1, 0, none⟩ (.slice A5 n5 c5)).setCell ⟨w.heap.size + 1 + 1, 1, none⟩ (.slice R5 m5 d5)).cell? ⟨w.heap.size + 1 + 1, 1, none⟩ = some (.slice R5 m5 d5) := ((q3.put 0 (.slice A5 n5 c5)).put 1 (.slice R5 m5 d5)).cell 1
    have D : Hid (OwnH (((w5).setCell ⟨w.heap.size + 1 + 1, 0, none⟩ (.slice A5 n5 c5)).setCell ⟨w.heap.size + 1 + 1, 1, none⟩ (.slice R5 m5 d5)) w.heap.size (.slice A5 n5 c5) (.slice R5 m5 d5) _ ∧ Below w.heap.size w (((w5).setCell ⟨w.heap.size + 1 + 1, 0, none⟩ (.slice A5 n5 c5)).setCell ⟨w.heap.size + 1 + 1, 1, none⟩ (.slice R5 m5 d5))) := Lib.hid (oh.out (by omega) b3 (by omega))
    clear q1 q2 q3 oh b2 b3 z0 z1 z2 z3 x0 x1 s2
    go_wp2_with fail
    exact bodyPost_ret (v := .tuple #[.agg #[.slice A5 n5 c5, .slice R5 m5 d5], .bool false]) (by simp [results, Tryd.results120, go_sem, *]) rfl ⟨_, _, by rw [HF.out], by rw [HF.out]; exact D.out.1, D.out.2⟩
  by_cases h1 : o.op = 1
  · by_cases hf : n = 40
    · have HF := Lib.hid (Hps.stepH_full hv ho h1 (by rw [HL.out]; exact hf))
      clear hv ho hc
      have ht : (o.op == (1 : Int)) = true := by rw [h1]; rfl
      clear h1
      subst hf
      go_wp2_with fail
      refine (l7Copy_any _ _ _ _ _ _ h _ s2 (by omega) (by omega) H3.out).mono ?_
      rintro e w5 ⟨vc, vr, rfl, oh, b1⟩
      obtain ⟨A5, n5, c5, R5, m5, d5, rfl, rfl⟩ := oh.slices
      replace q3 := q3.keep b1 q3.lt
      have b3 := b2.trans (b1.mono b2.size)
      replace oh := oh.base (base' := w.heap.size + 3) hsz
      have r2 : (w5).frozen? ⟨w.heap.size + 1 + 1, 0, none⟩ = false := q3.frozen 0
      have r3 : (w5).frozen? ⟨w.heap.size + 1 + 1, 1, none⟩ = false := q3.frozen 1
      have r4 : (w5).cell? ⟨w.heap.size + 1 + 1, 0, none⟩ = some (.slice none 0 0) := q3.cell 0
      have r5 : (w5).cell? ⟨w.heap.size + 1 + 1, 1, none⟩ = some (.slice none 0 0) := q3.cell 1
      have r6 : (((w5).setCell ⟨w.heap.size + 1 + 1, 0, none⟩ (.slice A5 n5 c5)).setCell ⟨w.heap.size + 1 + 1, 1, none⟩ (.slice R5 m5 d5)).cell? ⟨w.heap.size + 1 + 1, 0, none⟩ = some (.slice A5 n5 c5) := ((q3.put 0 (.slice A5 n5 c5)).put 1 (.slice R5 m5 d5)).cell 0
      have r7 : (((w5).setCell ⟨w.heap.size + 1 + 1, 0, none⟩ (.slice A5 n5 c5)).setCell ⟨w.heap.size + 1 + 1, 1, none⟩ (.slice R5 m5 d5)).cell? ⟨w.heap.size + 1 + 1, 1, none⟩ = some (.slice R5 m5 d5) := ((q3.put 0 (.slice A5 n5 c5)).put 1 (.slice R5 m5 d5)).cell 1
      have D : Hid (OwnH (((w5).setCell ⟨w.heap.size + 1 + 1, 0, none⟩ (.slice A5 n5 c5)).setCell ⟨w.heap.size + 1 + 1, 1, none⟩ (.slice R5 m5 d5)) w.heap.size (.slice A5 n5 c5) (.slice R5 m5 d5) _ ∧ Below w.heap.size w (((w5).setCell ⟨w.heap.size + 1 + 1, 0, none⟩ (.slice A5 n5 c5)).setCell ⟨w.heap.size + 1 + 1, 1, none⟩ (.slice R5 m5 d5))) := Lib.hid (oh.out (by omega) b3 (by omega))
      clear q1 q2 q3 oh b2 b3 z0 z1 z2 z3 x0 x1 s2
      go_wp2_with fail
      exact bodyPost_ret (v := .tuple #[.agg #[.slice A5 n5 c5, .slice R5 m5 d5], .bool false]) (by simp [results, Tryd.results120, go_sem, *]) rfl ⟨_, _, by rw [HF.out], by rw [HF.out]; exact D.out.1, D.out.2⟩
    have HF := Lib.hid (Hps.stepH_does hv ho hc (fun hh => hf (by rw [← HL.out]; exact hh.2)))
    have hc2 := Lib.hid (l8Do_any A R n c m d h o n w4 s2 hc (fun _ => Nat.le_refl _))
    have ht : (o.op == (1 : Int)) = true := by rw [h1]; rfl
    have hf' : ¬ (n : Int) = 40 := by omega
    rw [HL.out] at HF
    clear hv ho hc h1 hf
    go_wp2_with fail
    refine hc2.out.mono ?_
    rintro e w5 ⟨vc, vr, rfl, oh, b1⟩
    obtain ⟨A5, n5, c5, R5, m5, d5, rfl, rfl⟩ := oh.slices
    replace q3 := q3.keep b1 q3.lt
    have b3 := b2.trans (b1.mono b2.size)
    replace oh := oh.base (base' := w.heap.size + 3) hsz
    clear hc2
    have r2 : (w5).frozen? ⟨w.heap.size + 1 + 1, 0, none⟩ = false := q3.frozen 0
    have r3 : (w5).frozen? ⟨w.heap.size + 1 + 1, 1, none⟩ = false := q3.frozen 1
    have r4 : (w5).cell? ⟨w.heap.size + 1 + 1, 0, none⟩ = some (.slice none 0 0) := q3.cell 0
    have r5 : (w5).cell? ⟨w.heap.size + 1 + 1, 1, none⟩ = some (.slice none 0 0) := q3.cell 1
    have r6 : (((w5).setCell ⟨w.heap.size + 1 + 1, 0, none⟩ (.slice A5 n5 c5)).setCell ⟨w.heap.size + 1 + 1, 1, none⟩ (.slice R5 m5 d5)).cell? ⟨w.heap.size + 1 + 1, 0, none⟩ = some (.slice A5 n5 c5) := ((q3.put 0 (.slice A5 n5 c5)).put 1 (.slice R5 m5 d5)).cell 0
    have r7 : (((w5).setCell ⟨w.heap.size + 1 + 1, 0, none⟩ (.slice A5 n5 c5)).setCell ⟨w.heap.size + 1 + 1, 1, none⟩ (.slice R5 m5 d5)).cell? ⟨w.heap.size + 1 + 1, 1, none⟩ = some (.slice R5 m5 d5) := ((q3.put 0 (.slice A5 n5 c5)).put 1 (.slice R5 m5 d5)).cell 1
    have D : Hid (OwnH (((w5).setCell ⟨w.heap.size + 1 + 1, 0, none⟩ (.slice A5 n5 c5)).setCell ⟨w.heap.size + 1 + 1, 1, none⟩ (.slice R5 m5 d5)) w.heap.size (.slice A5 n5 c5) (.slice R5 m5 d5) _ ∧ Below w.heap.size w (((w5).setCell ⟨w.heap.size + 1 + 1, 0, none⟩ (.slice A5 n5 c5)).setCell ⟨w.heap.size + 1 + 1, 1, none⟩ (.slice R5 m5 d5))) := Lib.hid (oh.out (by omega) b3 (by omega))
    clear q1 q2 q3 oh b2 b3 z0 z1 z2 z3 x0 x1 s2
    go_wp2_with fail
    exact bodyPost_ret (v := .tuple #[.agg #[.slice A5 n5 c5, .slice R5 m5 d5], .bool true]) (by simp [results, Tryd.results120, go_sem, *]) rfl ⟨_, _, by rw [HF.out], by rw [HF.out]; exact D.out.1, D.out.2⟩
  have HF := Lib.hid (Hps.stepH_does hv ho hc (fun hh => h1 hh.1))
  have hc2 := Lib.hid (l8Do_any A R n c m d h o n w4 s2 hc (fun _ => Nat.le_refl _))
  rw [HL.out] at HF
  clear hv ho hc
  go_wp2_with fail
  refine hc2.out.mono ?_
  rintro e w5 ⟨vc, vr, rfl, oh, b1⟩
  obtain ⟨A5, n5, c5, R5, m5, d5, rfl, rfl⟩ := oh.slices
  replace q3 := q3.keep b1 q3.lt
  have b3 := b2.trans (b1.mono b2.size)
  replace oh := oh.base (base' := w.heap.size + 3) hsz
  clear hc2
  have r2 : (w5).frozen? ⟨w.heap.size + 1 + 1, 0, none⟩ = false := q3.frozen 0
  have r3 : (w5).frozen? ⟨w.heap.size + 1 + 1, 1, none⟩ = false := q3.frozen 1
  have r4 : (w5).cell? ⟨w.heap.size + 1 + 1, 0, none⟩ = some (.slice none 0 0) := q3.cell 0
  have r5 : (w5).cell? ⟨w.heap.size + 1 + 1, 1, none⟩ = some (.slice none 0 0) := q3.cell 1
  have r6 : (((w5).setCell ⟨w.heap.size + 1 + 1, 0, none⟩ (.slice A5 n5 c5)).setCell ⟨w.heap.size + 1 + 1, 1, none⟩ (.slice R5 m5 d5)).cell? ⟨w.heap.size + 1 + 1, 0, none⟩ = some (.slice A5 n5 c5) := ((q3.put 0 (.slice A5 n5 c5)).put 1 (.slice R5 m5 d5)).cell 0
  have r7 : (((w5).setCell ⟨w.heap.size + 1 + 1, 0, none⟩ (.slice A5 n5 c5)).setCell ⟨w.heap.size + 1 + 1, 1, none⟩ (.slice R5 m5 d5)).cell? ⟨w.heap.size + 1 + 1, 1, none⟩ = some (.slice R5 m5 d5) := ((q3.put 0 (.slice A5 n5 c5)).put 1 (.slice R5 m5 d5)).cell 1
  have D : Hid (OwnH (((w5).setCell ⟨w.heap.size + 1 + 1, 0, none⟩ (.slice A5 n5 c5)).setCell ⟨w.heap.size + 1 + 1, 1, none⟩ (.slice R5 m5 d5)) w.heap.size (.slice A5 n5 c5) (.slice R5 m5 d5) _ ∧ Below w.heap.size w (((w5).setCell ⟨w.heap.size + 1 + 1, 0, none⟩ (.slice A5 n5 c5)).setCell ⟨w.heap.size + 1 + 1, 1, none⟩ (.slice R5 m5 d5))) := Lib.hid (oh.out (by omega) b3 (by omega))
  clear q1 q2 q3 oh b2 b3 z0 z1 z2 z3 x0 x1 s2
  go_wp2_with fail
  exact bodyPost_ret (v := .tuple #[.agg #[.slice A5 n5 c5, .slice R5 m5 d5], .bool true]) (by simp [results, Tryd.results120, go_sem, *]) rfl ⟨_, _, by rw [HF.out], by rw [HF.out]; exact D.out.1, D.out.2⟩
end Go.Proofs.YtfgdenmlfloloaaDoor

namespace Go.Proofs.YtfgdenmlfloloaaDoor
open Go.RowKit
set_option maxRecDepth 100000
/-- a heap of the call's own, and what a pointer v leads to lies apart, once l -/
def OwnF (w : World) (base : Nat) (v : Value) (l : Bool) (vc vr : Value) (h : Hp) : Prop := ∃ rvs, OwnHx w base vc vr rvs h ∧ ∀ g, l = true → v = .pointer (some ⟨g, 0, none⟩) → Apart (some g) (vc :: vr :: rvs)
section
variable {w w' : World} {base : Nat} {v vc vr : Value} {l l' : Bool} {h : Hp}
theorem OwnF.own (ho : OwnF w base v l vc vr h) : OwnH w base vc vr h := by
  obtain ⟨rvs, o, _⟩ := ho
  exact ⟨rvs, o⟩
theorem OwnF.eq (ho : OwnF w base v l vc vr h) (e : l' = l) : OwnF w base v l' vc vr h := e ▸ ho
theorem OwnF.below (ho : OwnF w base v l vc vr h) (hb : Below w.heap.size w w') : OwnF w' base v l vc vr h := by
  obtain ⟨rvs, o, a⟩ := ho
  exact ⟨rvs, o.below hb (Nat.le_refl _), a⟩
theorem OwnF.alloc (ho : OwnF w base v l vc vr h) (ob : Obj) : OwnF (w.alloc ob) base (.pointer (some ⟨w.heap.size, 0, none⟩)) l' vc vr h := by
  obtain ⟨rvs, o, a⟩ := ho
  refine ⟨rvs, o.below ((Below.refl _ _).alloc (Nat.le_refl _) _) (Nat.le_refl _), fun g _ e => ?_⟩
  injection e with e
  injection e with e
  injection e with e
  subst e
  exact o.apart_new (Nat.le_refl _)
theorem OwnF.new (ho : OwnH w base vc vr h) (hv : ∀ g, l = true → v = .pointer (some ⟨g, 0, none⟩) → g < base) : OwnF w base v l vc vr h := by
  obtain ⟨rvs, o⟩ := ho
  exact ⟨rvs, o, fun g hl e => o.apart_below (hv g hl e)⟩
theorem OwnF.baseH {base' : Nat} (hb : base' ≤ base) (ho : OwnH w base vc vr h) (hv : ∀ g, l = true → v = .pointer (some ⟨g, 0, none⟩) → g < base) : OwnF w base' v l vc vr h := by
  obtain ⟨rvs, o⟩ := ho
  exact ⟨rvs, o.base hb, fun g hl e => o.apart_below (hv g hl e)⟩
theorem OwnF.put {g : Nat} (ho : OwnF w base (.pointer (some ⟨g, 0, none⟩)) l vc vr h) (hl : l = true) (u u' : Value) : OwnF ((w.setCell ⟨g, 0, none⟩ u).setCell ⟨g, 1, none⟩ u') base (.pointer (some ⟨g, 0, none⟩)) l vc vr h := by
  obtain ⟨rvs, o, a⟩ := ho
  exact ⟨rvs, (o.far (put_any w g 0 u) (a g hl rfl)).far (put_any _ g 1 u') (a g hl rfl), a⟩
end
/-- while a program runs: the heap so far in the box b -/
structure RunSt (w wr : World) (b : Nat) (vc vr : Value) (h : Hp) : Prop where
  own : ∃ rvs, OwnHx wr (w.heap.size + 1) vc vr rvs h ∧ Apart (some b) (vc :: vr :: rvs)
  box : Rw wr b 26 #[vc, vr]
  res : Rw wr w.heap.size 26 #[.slice none 0 0, .slice none 0 0]
  bel : Below w.heap.size w wr
  lo : w.heap.size + 1 ≤ b
theorem RunSt.next {w wr w5 : World} {b : Nat} {vc vr vc' vr' : Value} {h h' : Hp} (S : RunSt w wr b vc vr h) (B : Below wr.heap.size wr w5) (o : OwnH w5 wr.heap.size vc' vr' h') :
    RunSt w ((w5.setCell ⟨b, 0, none⟩ vc').setCell ⟨b, 1, none⟩ vr') b vc' vr' h' := by
  have hb := S.box.lt
  have hlo := S.lo
  obtain ⟨rvs, own⟩ := o
  have ap : Apart (some b) (vc' :: vr' :: rvs) := own.apart_below hb
  have x1 := S.box.keep B hb
  have x2 := S.res.keep B S.res.lt
  refine ⟨⟨rvs, ((own.far (put_any w5 b 0 vc') ap).far (put_any _ b 1 vr') ap).base (by omega), ap⟩, (x1.put 0 vc').put 1 vr', (x2.other (by omega) _).other (by omega) _, ?_, hlo⟩
  exact ((S.bel.trans (B.mono S.bel.size)).setCell (p := ⟨b, 0, none⟩) (by show w.heap.size ≤ b; omega) _).setCell (p := ⟨b, 1, none⟩) (by show w.heap.size ≤ b; omega) _
set_option maxRecDepth 100000 in
set_option maxHeartbeats 4000000 in
theorem mRunHeap_any (A : Option Addr) (n c : Nat) (l : List Cm) (w : World) (h : MS w w.heap.size A n l) (hn : n ≤ 1099511627776) :
    Calls Tryd.prog 89 #[.slice A n c] w (GaveH w (Hps.runH l)) := by
  have b1 : Below w.heap.size w (w.alloc (.cells #[.slice none 0 0, .slice none 0 0] 26)) := (Below.refl _ _).alloc (Nat.le_refl _) _
  have m1 := h.up b1
  have q3 := Rw.new w 26 #[.slice none 0 0, .slice none 0 0]
  go_enter Tryd.func89, Tryd.ntmps89
  go_wp2_with fail
  refine (mCommandsValid_any _ _ _ l _ m1 hn).mono ?_
  rintro e w1 ⟨rfl, b2⟩
  replace q3 := q3.keep b2 q3.lt
  replace b1 := b1.trans (b2.mono b1.size)
  clear m1 b2
  cases hv : Hps.okCms l
  · have HF := Lib.hid (show Hps.runH l = Hps.zeroH by rw [Hps.runH, if_neg (by rw [hv]; simp)])
    have r2 : w1.frozen? ⟨w.heap.size, 0, none⟩ = false := q3.frozen 0
    have r3 : w1.frozen? ⟨w.heap.size, 1, none⟩ = false := q3.frozen 1
    have r4 : w1.cell? ⟨w.heap.size, 0, none⟩ = some (.slice none 0 0) := q3.cell 0
    have r5 : w1.cell? ⟨w.heap.size, 1, none⟩ = some (.slice none 0 0) := q3.cell 1
    have r6 : ((w1.setCell ⟨w.heap.size, 0, none⟩ (.slice none 0 0)).setCell ⟨w.heap.size, 1, none⟩ (.slice none 0 0)).cell? ⟨w.heap.size, 0, none⟩ = some (.slice none 0 0) := ((q3.put 0 (.slice none 0 0)).put 1 (.slice none 0 0)).cell 0
    have r7 : ((w1.setCell ⟨w.heap.size, 0, none⟩ (.slice none 0 0)).setCell ⟨w.heap.size, 1, none⟩ (.slice none 0 0)).cell? ⟨w.heap.size, 1, none⟩ = some (.slice none 0 0) := ((q3.put 0 (.slice none 0 0)).put 1 (.slice none 0 0)).cell 1
    have D := Lib.hid ((own_zeroH w1 w1.heap.size (Nat.le_refl _)).out q3.lt b1 (Nat.le_refl _))
    clear q3 b1 hv
    go_wp2_with fail
    exact bodyPost_ret (v := .agg #[.slice none 0 0, .slice none 0 0]) (by simp [results, Tryd.results89, go_sem, *]) rfl ⟨_, _, rfl, by rw [HF.out]; exact D.out.1, D.out.2⟩
  have HF := Lib.hid (show Hps.runH l = Hps.runFrom Hps.emptyH l by rw [Hps.runH, if_pos hv])
  have HV := Lib.hid ((Hps.okCms_iff.1 hv).1)
  clear hv
  go_wp2_with fail
  refine (mEmptyHeap_any _).mono ?_
  rintro e w2 ⟨vc, vr, rfl, ⟨rvs, own⟩, b2⟩
  have hsz : w.heap.size + 1 ≤ w1.heap.size := q3.lt
  replace q3 := q3.keep b2 q3.lt
  have hsz2 := b2.size
  have hq := Rw.new w2 26 #[vc, vr]
  have S0 : RunSt w (w2.alloc (.cells #[vc, vr] 26)) w2.heap.size vc vr Hps.emptyH :=
    ⟨⟨rvs, (OwnHx.base (base' := w.heap.size + 1) own hsz).below ((Below.refl w2.heap.size w2).alloc (Nat.le_refl _) _) (Nat.le_refl _), own.apart_new (Nat.le_refl _)⟩, hq, q3.alloc _, (b1.trans (b2.mono b1.size)).alloc (by omega) _, by omega⟩
  obtain ⟨Ac, cc, Rc, dc, rfl, rfl, -⟩ := own.form
  clear hq own q3 b2
  go_upto_region 4 with fail
  generalize w2.alloc (.cells #[.slice Ac Hps.emptyH.cs.length cc, .slice Rc Hps.emptyH.rt.length dc] 26) = w3 at S0 ⊢
  generalize w2.heap.size = b at S0 ⊢
  clear hsz hsz2 w2 b1 w1
  go_wp2_with fail
  go_loopw [4] (fun i wr => ∃ (k : Nat) (A1 : Option Addr) (c1 : Nat) (R1 : Option Addr) (d1 : Nat) (hh : Hp), k ≤ n ∧ i = .int .i64 k ∧ hh = Hps.runFrom Hps.emptyH (l.take k) ∧ Hps.validH hh = true ∧ RunSt w wr b (.slice A1 hh.cs.length c1) (.slice R1 hh.rt.length d1) hh) (fun i _ => n - (intOf i).toNat)
  case atStart => exact ⟨0, Ac, cc, Rc, dc, Hps.emptyH, by omega, rfl, by simp [Hps.runFrom], Hps.empty_valid, S0⟩
  case round =>
    clear S0
    obtain ⟨k, A1, c1, R1, d1, hh, hk, rfl, hhe, hhv, S⟩ := hrel
    have hlo := S.lo
    have x0 : wr.cell? ⟨b, 0, none⟩ = some (.slice A1 hh.cs.length c1) := S.box.cell 0
    have x1 : wr.cell? ⟨b, 1, none⟩ = some (.slice R1 hh.rt.length d1) := S.box.cell 1
    have hml := h.1
    by_cases hlt : k < n
    · obtain ⟨g, o, x, rfl, hg, hx, c0, c1', c2, c3⟩ := (h.below S.bel).at_ hlt
      have hlt' : (k : Int) < n := by omega
      obtain ⟨h2, hh2⟩ : ∃ h2, (Hps.stepH hh x).1 = h2 := ⟨_, rfl⟩
      obtain ⟨ok, hok⟩ : ∃ ok, (Hps.stepH hh x).2 = ok := ⟨_, rfl⟩
      have HX := Lib.hid hx
      have HNX := Lib.hid (show h2 = Hps.runFrom Hps.emptyH (l.take (k + 1)) by
        rw [List.take_add_one, HX.out, Option.toList, Hps.runFrom_snoc, ← hhe]
        exact hh2.symm)
      have HVX := Lib.hid (show Hps.validH h2 = true by rw [← hh2]; exact Hps.stepH_valid hhv (HV.out x (List.mem_of_getElem? HX.out)))
      have hn40 := (Hps.valid_iff.1 hhv).2.1
      have hm4 := (Hps.valid_iff.1 hhv).2.2.1
      have CALL := Lib.hid (fun (ww : World) (hB : Below wr.heap.size wr ww) => by
        obtain ⟨rvs, own, _⟩ := S.own
        have hs := (own.below hB (Nat.le_refl _)).reads
        have := mStepHeap_any A1 R1 hh.cs.length c1 hh.rt.length d1 hh x ww hs (by omega) (by omega)
        rw [hh2, hok] at this
        exact this)
      have SS := Lib.hid S
      clear S hx hhe hhv hh2 hok hn40 hm4 hml
      go_wp2_with fail
      refine wp_region_inv (by kernel_rfl) (by kernel_rfl) (fun L ac ww => ∃ t5 t6 t18 t19 t20 t21 t22 t23 t24 t25 t26 : Value, ac = { tmps := #[Value.slice (some { block := g, off := o }) n c, undef, Value.pointer (some { block := w.heap.size, off := 0 }), Value.pointer (some { block := b, off := 0 }), Value.int IntKind.i64 ↑k, t5, t6, Value.slice (some { block := g, off := o }) n c, Value.bool true, Value.bool false, undef, Value.agg #[Value.slice Ac Hps.emptyH.cs.length cc, Value.slice Rc Hps.emptyH.rt.length dc], Value.int IntKind.i64 ↑k, Value.slice (some { block := g, off := o }) n c, Value.int IntKind.i64 ↑n, Value.bool true, u16, u17, t18, t19, t20, t21, t22, t23, t24, t25, t26, u27, undef], defers := [] } ∧ (Below wr.heap.size wr ww) ∧ (L 10 = true → L 9 = true) ∧ (L 6 = true → L 5 = true) ∧ (L 7 = true → L 5 = true) ∧ (L 0 = true → t19 = .agg #[(.slice A1 hh.cs.length c1), (.slice R1 hh.rt.length d1)]) ∧ (L 1 = true → t20 = .slice (some ⟨g, o, none⟩) n c) ∧ (L 2 = true → t21 = .int .i64 k) ∧ (L 3 = true → t22 = .pointer (some ⟨g, o + k * 4, none⟩)) ∧ (L 4 = true → t23 = .agg #[.int .i64 x.op, .int .i64 x.a, .int .i64 x.b, .int .i64 x.c]) ∧ (L 5 = true → ∃ (A5 : Option Addr) (n5 c5 : Nat) (R5 : Option Addr) (m5 d5 : Nat), t24 = .tuple #[.agg #[.slice A5 n5 c5, .slice R5 m5 d5], .bool ok] ∧ OwnF ww wr.heap.size t5 (L 9) (.slice A5 n5 c5) (.slice R5 m5 d5) h2) ∧ (L 6 = true → ∃ (A5 : Option Addr) (n5 c5 : Nat) (R5 : Option Addr) (m5 d5 : Nat), t24 = .tuple #[.agg #[.slice A5 n5 c5, .slice R5 m5 d5], .bool ok] ∧ t18 = .tuple #[.agg #[.slice A5 n5 c5, .slice R5 m5 d5], .bool ok]) ∧ (L 7 = true → ∃ (A5 : Option Addr) (n5 c5 : Nat) (R5 : Option Addr) (m5 d5 : Nat), t24 = .tuple #[.agg #[.slice A5 n5 c5, .slice R5 m5 d5], .bool ok] ∧ t25 = .agg #[.slice A5 n5 c5, .slice R5 m5 d5]) ∧ (L 8 = true → t26 = .bool ok) ∧ (L 9 = true → ∃ (g5 : Nat) (z0 z1 : Value), t5 = .pointer (some ⟨g5, 0, none⟩) ∧ wr.heap.size ≤ g5 ∧ Rw ww g5 26 #[z0, z1]) ∧ (L 10 = true → ∃ (g5 : Nat) (A5 : Option Addr) (n5 c5 : Nat) (R5 : Option Addr) (m5 d5 : Nat), t5 = .pointer (some ⟨g5, 0, none⟩) ∧ wr.heap.size ≤ g5 ∧ Rw ww g5 26 #[.slice A5 n5 c5, .slice R5 m5 d5] ∧ OwnH ww wr.heap.size (.slice A5 n5 c5) (.slice R5 m5 d5) h2) ∧ (L 11 = true → t6 = .bool ok)) ?h0 ?hstep ?hdone
      case h0 => exact ⟨_, _, _, _, _, _, _, _, _, _, _, rfl, (Below.refl _ _).drew, fun h => absurd h Bool.false_ne_true, fun h => absurd h Bool.false_ne_true, fun h => absurd h Bool.false_ne_true, (fun h => absurd h Bool.false_ne_true), (fun h => absurd h Bool.false_ne_true), (fun h => absurd h Bool.false_ne_true), (fun h => absurd h Bool.false_ne_true), (fun h => absurd h Bool.false_ne_true), (fun h => absurd h Bool.false_ne_true), (fun h => absurd h Bool.false_ne_true), (fun h => absurd h Bool.false_ne_true), (fun h => absurd h Bool.false_ne_true), (fun h => absurd h Bool.false_ne_true), (fun h => absurd h Bool.false_ne_true), (fun h => absurd h Bool.false_ne_true)⟩
      case hstep =>
        rintro L ac ww i o ho hL hd ⟨t5, t6, t18, t19, t20, t21, t22, t23, t24, t25, t26, rfl, I0, I1, I2, I3, f0, f1, f2, f3, f4, f5, f6, f7, f8, f9, f10, f11⟩
        have hi : i < 12 := (Array.getElem?_eq_some_iff.1 ho).1
        obtain rfl | rfl | rfl | rfl | rfl | rfl | rfl | rfl | rfl | rfl | rfl | rfl : i = 0 ∨ i = 1 ∨ i = 2 ∨ i = 3 ∨ i = 4 ∨ i = 5 ∨ i = 6 ∨ i = 7 ∨ i = 8 ∨ i = 9 ∨ i = 10 ∨ i = 11 := by omega
        · obtain rfl := Option.some.inj ho
          have y0 : ww.cell? ⟨b, 0, none⟩ = some (.slice A1 hh.cs.length c1) := (I0.cell (p := ⟨b, 0, none⟩) SS.out.box.lt).trans x0
          have y1 : ww.cell? ⟨b, 1, none⟩ = some (.slice R1 hh.rt.length d1) := (I0.cell (p := ⟨b, 1, none⟩) SS.out.box.lt).trans x1
          refine wpOp_step rfl (fun K' hK => ?_)
          go_simp
          refine hK _ _ ?_
          exact ⟨_, _, _, _, _, _, _, _, _, _, _, rfl, (I0), (fun h => by rw [upd_other (by decide)]; exact I1 (upd_ne h (by decide))), (fun h => upd_mono (I2 (upd_ne h (by decide)))), (fun h => upd_mono (I3 (upd_ne h (by decide)))), (fun _ => rfl), (kp f1), (kp f2), (kp f3), (kp f4), (fun h => by
            obtain ⟨A5, n5, c5, R5, m5, d5, e, oo⟩ := f5 (upd_ne h (by decide))
            exact ⟨A5, n5, c5, R5, m5, d5, e, oo.eq (upd_other (by decide))⟩), (kp f6), (kp f7), (kp f8), (kp f9), (kp f10), (kp f11)⟩
        · obtain rfl := Option.some.inj ho
          refine wpOp_step rfl (fun K' hK => ?_)
          go_simp
          refine hK _ _ ?_
          exact ⟨_, _, _, _, _, _, _, _, _, _, _, rfl, (I0), (fun h => by rw [upd_other (by decide)]; exact I1 (upd_ne h (by decide))), (fun h => upd_mono (I2 (upd_ne h (by decide)))), (fun h => upd_mono (I3 (upd_ne h (by decide)))), (kp f0), (fun _ => rfl), (kp f2), (kp f3), (kp f4), (fun h => by
            obtain ⟨A5, n5, c5, R5, m5, d5, e, oo⟩ := f5 (upd_ne h (by decide))
            exact ⟨A5, n5, c5, R5, m5, d5, e, oo.eq (upd_other (by decide))⟩), (kp f6), (kp f7), (kp f8), (kp f9), (kp f10), (kp f11)⟩
        · obtain rfl := Option.some.inj ho
          refine wpOp_step rfl (fun K' hK => ?_)
          go_simp
          refine hK _ _ ?_
          exact ⟨_, _, _, _, _, _, _, _, _, _, _, rfl, (I0), (fun h => by rw [upd_other (by decide)]; exact I1 (upd_ne h (by decide))), (fun h => upd_mono (I2 (upd_ne h (by decide)))), (fun h => upd_mono (I3 (upd_ne h (by decide)))), (kp f0), (kp f1), (fun _ => rfl), (kp f3), (kp f4), (fun h => by
            obtain ⟨A5, n5, c5, R5, m5, d5, e, oo⟩ := f5 (upd_ne h (by decide))
            exact ⟨A5, n5, c5, R5, m5, d5, e, oo.eq (upd_other (by decide))⟩), (kp f6), (kp f7), (kp f8), (kp f9), (kp f10), (kp f11)⟩
        · obtain rfl := Option.some.inj ho
          have g1 := f1 (hd ⟨1, .data⟩ (by simp) rfl)
          have g2 := f2 (hd ⟨2, .data⟩ (by simp) rfl)
          subst g1
          subst g2
          refine wpOp_step rfl (fun K' hK => ?_)
          go_simp
          refine hK _ _ ?_
          exact ⟨_, _, _, _, _, _, _, _, _, _, _, rfl, (I0), (fun h => by rw [upd_other (by decide)]; exact I1 (upd_ne h (by decide))), (fun h => upd_mono (I2 (upd_ne h (by decide)))), (fun h => upd_mono (I3 (upd_ne h (by decide)))), (kp f0), (kp f1), (kp f2), (fun _ => rfl), (kp f4), (fun h => by
            obtain ⟨A5, n5, c5, R5, m5, d5, e, oo⟩ := f5 (upd_ne h (by decide))
            exact ⟨A5, n5, c5, R5, m5, d5, e, oo.eq (upd_other (by decide))⟩), (kp f6), (kp f7), (kp f8), (kp f9), (kp f10), (kp f11)⟩
        · obtain rfl := Option.some.inj ho
          have g3 := f3 (hd ⟨3, .data⟩ (by simp) rfl)
          subst g3
          have y0 : ww.cell? ⟨g, o + k * 4, none⟩ = some (.int .i64 x.op) := (I0.cell (p := ⟨g, o + k * 4, none⟩) (Nat.lt_of_lt_of_le hg SS.out.bel.size)).trans c0
          have y1 : ww.cell? ⟨g, o + k * 4 + 1, none⟩ = some (.int .i64 x.a) := (I0.cell (p := ⟨g, o + k * 4 + 1, none⟩) (Nat.lt_of_lt_of_le hg SS.out.bel.size)).trans c1'
          have y2 : ww.cell? ⟨g, o + k * 4 + 2, none⟩ = some (.int .i64 x.b) := (I0.cell (p := ⟨g, o + k * 4 + 2, none⟩) (Nat.lt_of_lt_of_le hg SS.out.bel.size)).trans c2
          have y3 : ww.cell? ⟨g, o + k * 4 + 3, none⟩ = some (.int .i64 x.c) := (I0.cell (p := ⟨g, o + k * 4 + 3, none⟩) (Nat.lt_of_lt_of_le hg SS.out.bel.size)).trans c3
          refine wpOp_step rfl (fun K' hK => ?_)
          go_simp
          refine hK _ _ ?_
          exact ⟨_, _, _, _, _, _, _, _, _, _, _, rfl, (I0), (fun h => by rw [upd_other (by decide)]; exact I1 (upd_ne h (by decide))), (fun h => upd_mono (I2 (upd_ne h (by decide)))), (fun h => upd_mono (I3 (upd_ne h (by decide)))), (kp f0), (kp f1), (kp f2), (kp f3), (fun _ => rfl), (fun h => by
            obtain ⟨A5, n5, c5, R5, m5, d5, e, oo⟩ := f5 (upd_ne h (by decide))
            exact ⟨A5, n5, c5, R5, m5, d5, e, oo.eq (upd_other (by decide))⟩), (kp f6), (kp f7), (kp f8), (kp f9), (kp f10), (kp f11)⟩
        · obtain rfl := Option.some.inj ho
          have g0 := f0 (hd ⟨0, .data⟩ (by simp) rfl)
          have g4 := f4 (hd ⟨4, .data⟩ (by simp) rfl)
          subst g0
          subst g4
          refine wpOp_step rfl (fun K' hK => ?_)
          go_simp
          refine (CALL.out ww I0).mono ?_
          rintro e w' ⟨v1, v2, rfl, oh, b5⟩
          obtain ⟨A5, n5, c5, R5, m5, d5, rfl, rfl⟩ := oh.slices
          have hsz := I0.size
          refine hK _ _ ?_
          exact ⟨_, _, _, _, _, _, _, _, _, _, _, rfl, (I0.trans (b5.mono I0.size)), (fun h => by rw [upd_other (by decide)]; exact I1 (upd_ne h (by decide))), (fun h => upd_mono (I2 (upd_ne h (by decide)))), (fun h => upd_mono (I3 (upd_ne h (by decide)))), (kp f0), (kp f1), (kp f2), (kp f3), (kp f4), (fun _ => ⟨A5, n5, c5, R5, m5, d5, rfl, OwnF.baseH hsz oh (fun g5 hl e => by
            obtain ⟨g6, z0, z1, e', hg5, hz⟩ := f9 (by rw [upd_other (by decide)] at hl; exact hl)
            rw [e'] at e
            injection e with e
            injection e with e
            injection e with e
            rw [← e]
            exact hz.lt) ⟩), (fun h => absurd (I2 (upd_ne h (by decide))) (by rw [hL]; simp)), (fun h => absurd (I3 (upd_ne h (by decide))) (by rw [hL]; simp)), (kp f8), (fun h => by
            obtain ⟨g5, z0, z1, e, hg5, hz⟩ := f9 (upd_ne h (by decide))
            exact ⟨g5, z0, z1, e, hg5, hz.keep b5 hz.lt⟩), (fun h => by
            obtain ⟨g5, A5, n5, c5, R5, m5, d5, e, hg5, hz, oo⟩ := f10 (upd_ne h (by decide))
            exact ⟨g5, A5, n5, c5, R5, m5, d5, e, hg5, hz.keep b5 hz.lt, oo.below b5 (Nat.le_refl _)⟩), (kp f11)⟩
        · obtain rfl := Option.some.inj ho
          have g5 := f5 (hd ⟨5, .data⟩ (by simp) rfl)
          obtain ⟨A5, n5, c5, R5, m5, d5, rfl, o5⟩ := g5
          refine wpOp_step rfl (fun K' hK => ?_)
          go_simp
          refine hK _ _ ?_
          exact ⟨_, _, _, _, _, _, _, _, _, _, _, rfl, (I0), (fun h => by rw [upd_other (by decide)]; exact I1 (upd_ne h (by decide))), (fun _ => upd_mono (hd ⟨5, .data⟩ (by simp) rfl)), (fun h => upd_mono (I3 (upd_ne h (by decide)))), (kp f0), (kp f1), (kp f2), (kp f3), (kp f4), (fun h => by
            obtain ⟨A5, n5, c5, R5, m5, d5, e, oo⟩ := f5 (upd_ne h (by decide))
            exact ⟨A5, n5, c5, R5, m5, d5, e, oo.eq (upd_other (by decide))⟩), (fun _ => ⟨_, _, _, _, _, _, rfl, rfl⟩), (kp f7), (kp f8), (kp f9), (kp f10), (kp f11)⟩
        · obtain rfl := Option.some.inj ho
          have g6 := f6 (hd ⟨6, .data⟩ (by simp) rfl)
          obtain ⟨A5, n5, c5, R5, m5, d5, rfl, rfl⟩ := g6
          refine wpOp_step rfl (fun K' hK => ?_)
          go_simp
          refine hK _ _ ?_
          exact ⟨_, _, _, _, _, _, _, _, _, _, _, rfl, (I0), (fun h => by rw [upd_other (by decide)]; exact I1 (upd_ne h (by decide))), (fun h => upd_mono (I2 (upd_ne h (by decide)))), (fun _ => upd_mono (I2 (hd ⟨6, .data⟩ (by simp) rfl))), (kp f0), (kp f1), (kp f2), (kp f3), (kp f4), (fun h => by
            obtain ⟨A5, n5, c5, R5, m5, d5, e, oo⟩ := f5 (upd_ne h (by decide))
            exact ⟨A5, n5, c5, R5, m5, d5, e, oo.eq (upd_other (by decide))⟩), (kp f6), (fun _ => ⟨_, _, _, _, _, _, rfl, rfl⟩), (kp f8), (kp f9), (kp f10), (kp f11)⟩
        · obtain rfl := Option.some.inj ho
          have g6 := f6 (hd ⟨6, .data⟩ (by simp) rfl)
          obtain ⟨A5, n5, c5, R5, m5, d5, rfl, rfl⟩ := g6
          refine wpOp_step rfl (fun K' hK => ?_)
          go_simp
          refine hK _ _ ?_
          exact ⟨_, _, _, _, _, _, _, _, _, _, _, rfl, (I0), (fun h => by rw [upd_other (by decide)]; exact I1 (upd_ne h (by decide))), (fun h => upd_mono (I2 (upd_ne h (by decide)))), (fun h => upd_mono (I3 (upd_ne h (by decide)))), (kp f0), (kp f1), (kp f2), (kp f3), (kp f4), (fun h => by
            obtain ⟨A5, n5, c5, R5, m5, d5, e, oo⟩ := f5 (upd_ne h (by decide))
            exact ⟨A5, n5, c5, R5, m5, d5, e, oo.eq (upd_other (by decide))⟩), (kp f6), (kp f7), (fun _ => rfl), (kp f9), (kp f10), (kp f11)⟩
        · obtain rfl := Option.some.inj ho
          refine wpOp_step rfl (fun K' hK => ?_)
          go_simp
          refine hK _ _ ?_
          exact ⟨_, _, _, _, _, _, _, _, _, _, _, rfl, (I0.alloc I0.size _), (fun _ => upd_self), (fun h => upd_mono (I2 (upd_ne h (by decide)))), (fun h => upd_mono (I3 (upd_ne h (by decide)))), (kp f0), (kp f1), (kp f2), (kp f3), (kp f4), (fun h => by
            obtain ⟨A5, n5, c5, R5, m5, d5, e, oo⟩ := f5 (upd_ne h (by decide))
            exact ⟨A5, n5, c5, R5, m5, d5, e, oo.alloc _⟩), (kp f6), (kp f7), (kp f8), (fun _ => ⟨ww.heap.size, _, _, rfl, I0.size, Rw.new _ _ _⟩), (fun h => absurd (I1 (upd_ne h (by decide))) (by rw [hL]; simp)), (kp f11)⟩
        · obtain rfl := Option.some.inj ho
          have g7 := f7 (hd ⟨7, .data⟩ (by simp) rfl)
          have g9 := f9 (hd ⟨9, .data⟩ (by simp) rfl)
          have g5 := f5 (hd ⟨5, .chain⟩ (by simp) rfl)
          have hL9 := hd ⟨9, .data⟩ (by simp) rfl
          obtain ⟨q5, z0, z1, rfl, hq5, hz⟩ := g9
          obtain ⟨A5, n5, c5, R5, m5, d5, rfl, rfl⟩ := g7
          obtain ⟨A6, n6, c6, R6, m6, d6, e6, oo⟩ := g5
          injection e6 with e6
          simp at e6
          obtain ⟨⟨rfl, rfl, rfl⟩, rfl, rfl, rfl⟩ := e6
          have u0 := hz.cell 0
          have u1 := hz.cell 1
          have u2 := hz.frozen 0
          have u3 := hz.frozen 1
          simp at u0 u1
          refine wpOp_step rfl (fun K' hK => ?_)
          go_simp
          refine hK _ _ ?_
          exact ⟨_, _, _, _, _, _, _, _, _, _, _, rfl, ((I0.setCell (p := ⟨q5, 0, none⟩) hq5 _).setCell (p := ⟨q5, 1, none⟩) hq5 _), (fun _ => by rw [upd_other (by decide)]; exact hL9), (fun h => upd_mono (I2 (upd_ne h (by decide)))), (fun h => upd_mono (I3 (upd_ne h (by decide)))), (kp f0), (kp f1), (kp f2), (kp f3), (kp f4), (fun h => ⟨_, _, _, _, _, _, rfl, (oo.put hL9 _ _).eq (upd_other (by decide))⟩), (kp f6), (kp f7), (kp f8), (fun h => ⟨_, _, _, rfl, hq5, (hz.put 0 _).put 1 _⟩), (fun _ => ⟨_, _, _, _, _, _, _, rfl, hq5, (hz.put 0 _).put 1 _, (oo.put hL9 _ _).own⟩), (kp f11)⟩
        · obtain rfl := Option.some.inj ho
          have g8 := f8 (hd ⟨8, .data⟩ (by simp) rfl)
          subst g8
          refine wpOp_step rfl (fun K' hK => ?_)
          go_simp
          refine hK _ _ ?_
          exact ⟨_, _, _, _, _, _, _, _, _, _, _, rfl, (I0), (fun h => by rw [upd_other (by decide)]; exact I1 (upd_ne h (by decide))), (fun h => upd_mono (I2 (upd_ne h (by decide)))), (fun h => upd_mono (I3 (upd_ne h (by decide)))), (kp f0), (kp f1), (kp f2), (kp f3), (kp f4), (fun h => by
            obtain ⟨A5, n5, c5, R5, m5, d5, e, oo⟩ := f5 (upd_ne h (by decide))
            exact ⟨A5, n5, c5, R5, m5, d5, e, oo.eq (upd_other (by decide))⟩), (kp f6), (kp f7), (kp f8), (kp f9), (kp f10), (fun _ => rfl)⟩
      case hdone =>
        rintro L ac ww hall ⟨t5, t6, t18, t19, t20, t21, t22, t23, t24, t25, t26, rfl, I0, I1, I2, I3, f0, f1, f2, f3, f4, f5, f6, f7, f8, f9, f10, f11⟩
        have e0 := f0 (hall 0 (by decide))
        have e1 := f1 (hall 1 (by decide))
        have e2 := f2 (hall 2 (by decide))
        have e3 := f3 (hall 3 (by decide))
        have e4 := f4 (hall 4 (by decide))
        have e5 := f5 (hall 5 (by decide))
        have e6 := f6 (hall 6 (by decide))
        have e7 := f7 (hall 7 (by decide))
        have e8 := f8 (hall 8 (by decide))
        have e9 := f9 (hall 9 (by decide))
        have e10 := f10 (hall 10 (by decide))
        have e11 := f11 (hall 11 (by decide))
        clear f0 f1 f2 f3 f4 f5 f6 f7 f8 f9 f10 f11
        obtain ⟨g5, A5, n5, c5, R5, m5, d5, rfl, hg5, hz, oo⟩ := e10
        obtain ⟨nn, hnn⟩ : ∃ nn, h2.cs.length = nn := ⟨_, rfl⟩
        obtain ⟨mm, hmm⟩ : ∃ mm, h2.rt.length = mm := ⟨_, rfl⟩
        obtain ⟨Ax, cx, Rx, dx, ex1, ex2, _⟩ := oo.form
        injection ex1 with ex1 ex2' ex3
        injection ex2 with ey1 ey2 ey3
        subst ex1 ex2' ex3 ey1 ey2 ey3
        have NX := SS.out.next I0 oo
        have z0 := hz.cell 0
        have z1 := hz.cell 1
        simp at z0 z1
        have z2 : ww.frozen? ⟨b, 0, none⟩ = false := (SS.out.box.keep I0 SS.out.box.lt).frozen 0
        have z3 : ww.frozen? ⟨b, 1, none⟩ = false := (SS.out.box.keep I0 SS.out.box.lt).frozen 1
        have z4 : ww.cell? ⟨b, 0, none⟩ = some (.slice A1 hh.cs.length c1) := (SS.out.box.keep I0 SS.out.box.lt).cell 0
        have z5 : ww.cell? ⟨b, 1, none⟩ = some (.slice R1 hh.rt.length d1) := (SS.out.box.keep I0 SS.out.box.lt).cell 1
        clear e0 e1 e2 e3 e4 e5 e6 e7 e8 e9 e11 I1 I2 I3 hz oo hnn hmm x0 x1 c0 c1' c2 c3
        go_wp2_with fail
        go_roundw
        case rel => exact ⟨k + 1, A5, c5, R5, d5, h2, by omega, by go_num, HNX.out, HVX.out, NX⟩
        case measure => simp [intOf]; omega
    · obtain rfl : k = n := by omega
      have HE := Lib.hid (show Hps.runH l = hh by rw [HF.out, hhe, List.take_of_length_le (by omega)])
      have r2 : wr.frozen? ⟨w.heap.size, 0, none⟩ = false := S.res.frozen 0
      have r3 : wr.frozen? ⟨w.heap.size, 1, none⟩ = false := S.res.frozen 1
      have r4 : wr.cell? ⟨w.heap.size, 0, none⟩ = some (.slice none 0 0) := S.res.cell 0
      have r5 : wr.cell? ⟨w.heap.size, 1, none⟩ = some (.slice none 0 0) := S.res.cell 1
      obtain ⟨nn, hnn⟩ : ∃ nn, hh.cs.length = nn := ⟨_, rfl⟩
      obtain ⟨mm, hmm⟩ : ∃ mm, hh.rt.length = mm := ⟨_, rfl⟩
      rw [hnn, hmm] at S
      rw [hnn] at x0
      rw [hmm] at x1
      have r6 : ((wr.setCell ⟨w.heap.size, 0, none⟩ (.slice A1 nn c1)).setCell ⟨w.heap.size, 1, none⟩ (.slice R1 mm d1)).cell? ⟨w.heap.size, 0, none⟩ = some (.slice A1 nn c1) := ((S.res.put 0 (.slice A1 nn c1)).put 1 (.slice R1 mm d1)).cell 0
      have r7 : ((wr.setCell ⟨w.heap.size, 0, none⟩ (.slice A1 nn c1)).setCell ⟨w.heap.size, 1, none⟩ (.slice R1 mm d1)).cell? ⟨w.heap.size, 1, none⟩ = some (.slice R1 mm d1) := ((S.res.put 0 (.slice A1 nn c1)).put 1 (.slice R1 mm d1)).cell 1
      have D := Lib.hid (by
        obtain ⟨rvs, own, _⟩ := S.own
        exact OwnH.out (w := w) (g := w.heap.size) ⟨rvs, own⟩ (by omega) S.bel (Nat.le_refl _))
      clear S hhe hhv hnn hmm hml
      go_wp2_with fail
      exact bodyPost_ret (v := .agg #[.slice A1 nn c1, .slice R1 mm d1]) (by simp [results, Tryd.results89, go_sem, *]) rfl ⟨_, _, rfl, by rw [HE.out]; exact D.out.1, D.out.2⟩
end Go.Proofs.YtfgdenmlfloloaaDoor

namespace Go.Proofs.YtfgdenmlfloloaaDoor
open Go.RowKit
/-- the work list's state: the marks in block g, the list in blocks of its own behind it, the heap's box -/
structure RS (w wr : World) (box : Array Value) (n : Nat) (lv : Value) (cs : List Cl) (rs : List Int) (outs : List Bool) (l : List Int) : Prop where
  own : OwnO wr w.heap.size (.slice (some ⟨w.heap.size + 1, 0, none⟩) n n) outs
  lst : OwnI wr (w.heap.size + 2) lv l
  box : Rw wr w.heap.size 26 box
  bel : Below w.heap.size w wr
  wk : Hps.Wk cs rs outs l
  big : w.heap.size + 2 ≤ wr.heap.size
theorem RS.draws {w wr : World} {box : Array Value} {n : Nat} {lv : Value} {cs : List Cl} {rs : List Int} {outs : List Bool} {l : List Int} (h : RS w wr box n lv cs rs outs l) (k : Nat) : RS w (wr.drewN k) box n lv cs rs outs l :=
  ⟨h.own, h.lst, h.box, below_drewN h.bel k, h.wk, h.big⟩
theorem RS.pre {w wr : World} {box : Array Value} {n : Nat} {lv : Value} {cs : List Cl} {rs : List Int} {outs : List Bool} {l : List Int} (h : RS w wr box n lv cs rs outs l) (y : Nat) : OwnI ((wr.setCell ⟨w.heap.size + 1, y, none⟩ (.bool true)).alloc (.cells #[.int .i64 y] 3)) (w.heap.size + 2) lv l := by
  refine World.ownsRow.alloc (h.lst.far (only_put (World.grownBy.refl _ _) y (.bool true)) ?_) _
  cases e : lv.ownBlock with
  | none => exact .inl rfl
  | some kk =>
    right
    intro e'
    injection e' with e'
    have := (World.ownsRow.lt h.lst kk e).1
    omega
/-- one more is marked and listed -/
theorem RS.mark {w wr w5 : World} {box : Array Value} {n y : Nat} {lv v5 : Value} {cs : List Cl} {rs : List Int} {outs : List Bool} {l : List Int} (h : RS w wr box n lv cs rs outs l) (hn : outs.length = n)
    (hy : outs[y]? = some false) (hr : Hps.Rch cs rs y)
    (ho : OwnI w5 (w.heap.size + 2) v5 (l ++ [(y : Int)])) (hg : ((wr.setCell ⟨w.heap.size + 1, y, none⟩ (.bool true)).alloc (.cells #[.int .i64 y] 3)).grownBy w5 lv.ownBlock) : RS w w5 box n v5 cs rs (outs.set y true) (l ++ [(y : Int)]) := by
  have hlv : ∀ k, lv.ownBlock = some k → w.heap.size + 2 ≤ k := fun k hk => (World.ownsRow.lt h.lst k hk).1
  have o1 := h.own.put' (j := y) hn true
  have o2 := World.ownsRow.alloc o1 (.cells #[.int .i64 y] 3)
  have o3 : OwnO w5 w.heap.size (.slice (some ⟨w.heap.size + 1, 0, none⟩) n n) (outs.set y true) := World.ownsRow.kept o2 hg (by
    right
    intro e
    have := hlv (w.heap.size + 1) e.symm
    omega)
  have b1 := (h.bel.setCell (p := ⟨w.heap.size + 1, y, none⟩) (by simp) (.bool true)).alloc (by simp; have := h.bel.size; omega) (.cells #[.int .i64 y] 3)
  refine ⟨o3, ho, ?_, b1.grown hg (by simp; have := h.bel.size; omega) (fun k hk => by have := hlv k hk; omega), h.wk.mark hy hr, ?_⟩
  · exact Rw.far ((Rw.other (w := wr) h.box (by omega) _).alloc _) hg (fun e => by have := hlv w.heap.size e.symm; omega)
  · have := hg.size
    have := h.big
    simp at *
    omega
theorem take_snocI {xs : List Int} {k : Nat} {x : Int} (h : xs[k]? = some x) : xs.take (k + 1) = xs.take k ++ [x] := by
  rw [List.take_add_one, h]
  rfl
set_option maxHeartbeats 4000000 in
theorem l7Reach_any (A R F : Option Addr) (n c m d q e : Nat) (h : Hp) (rs : List Int) (w : World) (hs : HS w w.heap.size A n R m h) (hf : IS w w.heap.size F q rs) (hn : n ≤ 1000000) (hq : q ≤ 1000000)
    (ho : Hps.okRefs h.cs rs = true) (hr : ∀ cl ∈ h.cs, Hps.okRefs h.cs cl.r = true) (hb : ∀ cl ∈ h.cs, cl.r.length ≤ 1000000) :
    Calls Tryd.prog 52 #[heapV A n c R m d, .slice F q e] w (GaveO w (Hps.reachL h.cs rs)) := by
  have hlc := hs.cells.1
  have hlr := hf.1
  have HO := Lib.hid ho
  have HRF := Lib.hid hr
  have HB := Lib.hid hb
  clear ho hr hb
  have hmk := makeO (w.alloc (.cells #[.slice A n c, .slice R m d] 26)) n (by omega)
  have st : RS w (((w.alloc (.cells #[.slice A n c, .slice R m d] 26)).alloc (.cells (Array.replicate n (.bool false)) 4)).alloc (.cells #[] 3)) #[.slice A n c, .slice R m d] n (.slice (some ⟨w.heap.size + 2, 0, none⟩) 0 0) h.cs rs (List.replicate n false) [] := by
    refine ⟨?_, ?_, ((Rw.new w _ _).alloc _).alloc _, (((Below.refl w.heap.size w).alloc (Nat.le_refl _) _).alloc (by simp) _).alloc (by simp; omega) _, by rw [← hlc]; exact Hps.Wk.start _ _, by simp⟩
    · have := own_madeO (w.alloc (.cells #[.slice A n c, .slice R m d] 26)) n (by omega)
      rw [World.size_alloc] at this
      exact World.ownsRow.alloc (this.base (by omega)) _
    · have := own_noneI ((w.alloc (.cells #[.slice A n c, .slice R m d] 26)).alloc (.cells (Array.replicate n (.bool false)) 4)) (w.heap.size + 2) (by simp)
      simpa using this
  obtain ⟨w0, hw0⟩ : ∃ w0, (w.alloc (.cells #[.slice A n c, .slice R m d] 26)).alloc (.cells (Array.replicate n (.bool false)) 4) = w0 := ⟨_, rfl⟩
  have hsz0 : w0.heap.size = w.heap.size + 2 := by rw [← hw0]; simp
  rw [hw0] at hmk st
  simp at hmk
  clear hw0
  go_enter Tryd.func52, Tryd.ntmps52
  go_wp2
  clear hmk
  go_loopw [6, 7] (fun lv i wr => ∃ (k : Nat) (outs : List Bool) (l : List Int), k ≤ q ∧ i = .int .i64 k ∧ RS w wr #[.slice A n c, .slice R m d] n lv h.cs rs outs l ∧ Hid (Hps.Marked outs (rs.take k))) (fun _ i _ => q - (intOf i).toNat)
  case atStart => exact ⟨0, _, _, Nat.zero_le _, rfl, st, Lib.hid (by rw [List.take_zero]; exact Hps.Marked.nil _)⟩
  case round =>
    clear st hsz0
    obtain ⟨k, outs, l, hk, rfl, S, HM⟩ := hrel
    have hlen : outs.length = n := S.wk.len.trans hlc
    by_cases hlt : k < q
    · obtain ⟨g, o, x, rfl, hg, hx, d0⟩ := hf.at_ hlt
      have d1 := (S.bel.cell (p := ⟨g, o + k, none⟩) hg).trans d0
      have hlt' : (k : Int) < q := by omega
      have HT := Lib.hid (take_snocI hx)
      have hok := Hps.okRefs_at HO.out hx
      by_cases hx0 : 0 ≤ x
      · obtain ⟨y, rfl, hy, _⟩ := Hps.okRef_nat hok hx0
        have HRC := Lib.hid (Hps.Rch.root (cs := h.cs) (List.mem_of_getElem? hx))
        rw [hlc] at hy
        obtain ⟨g', o', b, e1, _, hbk, c1⟩ := S.own.reads.at_ (k := y) hy
        injection e1 with e1
        injection e1 with e2 e3
        subst e2 e3
        rw [Nat.zero_add] at c1
        have hy' : (y : Int) < n := by omega
        clear hx hok
        cases b
        · have HBK := Lib.hid hbk
          have fz : wr.frozen? ⟨w.heap.size + 1, y, none⟩ = false := S.own.frozen hlen y
          have d2 := ((S.bel.setCell (p := ⟨w.heap.size + 1, y, none⟩) (by simp) (.bool true)).cell (p := ⟨g, o + k, none⟩) hg).trans d0
          have ow := S.pre y
          have rr : IS ((wr.setCell ⟨w.heap.size + 1, y, none⟩ (.bool true)).alloc (.cells #[.int .i64 y] 3)) ((wr.setCell ⟨w.heap.size + 1, y, none⟩ (.bool true)).alloc (.cells #[.int .i64 y] 3)).heap.size (some ⟨(wr.setCell ⟨w.heap.size + 1, y, none⟩ (.bool true)).heap.size, 0, none⟩) 1 [(y : Int)] := (own_oneI _ (y : Int) 0 (Nat.zero_le _)).reads
          have hyn : l.length + 1 ≤ 1099511627776 := by have := S.wk.le; omega
          have hsz := S.big
          simp only [World.size_setCell] at rr
          clear hbk
          go_wp2_with (at_builtin; refine wpList_appendI rfl (.tmp 43) (.tmp 48) rfl (w.heap.size + 2) _ l rfl ow (some ⟨wr.heap.size, 0, none⟩) 1 1 _ [(y : Int)] rfl rr hyn (by simp; omega) ?_; intro v5 w5 o5 g5 s5)
          go_roundw
          case rel => exact ⟨k + 1, _, _, by omega, by go_num, S.mark hlen HBK.out HRC.out o5 g5, Lib.hid (by rw [HT.out]; exact (HM.out.set y).snoc fun _ => by simp [hlen, hy])⟩
          case measure => simp [intOf]; omega
        · have HBK := Lib.hid hbk
          clear hbk
          go_wp2_with fail
          go_roundw
          case rel => exact ⟨k + 1, _, _, by omega, by go_num, S, Lib.hid (by rw [HT.out]; exact HM.out.snoc fun _ => by simpa using HBK.out)⟩
          case measure => simp [intOf]; omega
      · have hx0' : decide ((0 : Int) ≤ x) = false := decide_eq_false hx0
        clear hx hok
        go_wp2_with fail
        go_roundw
        case rel => exact ⟨k + 1, _, _, by omega, by go_num, S, Lib.hid (by rw [HT.out]; exact HM.out.snoc fun hh => absurd hh hx0)⟩
        case measure => simp [intOf]; omega
    · obtain rfl : k = q := by omega
      rw [List.take_of_length_le (by omega)] at HM
      go_wp2_with fail
      go_loopw [6, 8] (fun lv i wr => ∃ (k : Nat) (outs : List Bool) (l : List Int), k ≤ l.length ∧ i = .int .i64 k ∧ RS w wr #[.slice A n c, .slice R m d] n lv h.cs rs outs l ∧ Hid (Hps.Marked outs rs) ∧ Hid (Hps.Done h.cs outs l k)) (fun _ i _ => n - (intOf i).toNat)
      case atStart => exact ⟨0, _, _, Nat.zero_le _, rfl, S, HM, Lib.hid (Hps.Done.zero _ _ _)⟩
      case round =>
        clear S HM hlen hk hlt
        obtain ⟨k, outs, l, hk, rfl, S, HM, HD⟩ := hrel
        obtain ⟨A6, c6, e6, f6⟩ := S.lst.form
        subst e6
        have hle := S.wk.le
        by_cases hlt : k < l.length
        · have hlt' : (k : Int) < l.length := by omega
          obtain ⟨g6, o6, yi, e6, hg6, hy6, d6⟩ := S.lst.reads.at_ (k := k) hlt
          subst e6
          obtain ⟨y, rfl, hy⟩ := S.wk.nat yi (List.mem_of_getElem? hy6)
          rw [hlc] at hy
          obtain ⟨g, o, cl, A', m', cc, e1, hg, hcl, d1, d2, d3, hmc, hi⟩ := hs.cells.at_ (k := y) hy
          subst e1
          have z0 : wr.cell? ⟨w.heap.size, 0, none⟩ = some (.slice (some ⟨g, o, none⟩) n c) := S.box.cell 0
          have d3' := (S.bel.cell (p := ⟨g, o + y * 3 + 2, none⟩) hg).trans d3
          have hy' : (y : Int) < n := by omega
          have hm3 : m' ≤ 1000000 := by have := HB.out cl (List.mem_of_getElem? hcl); have := hi.1; omega
          have HOK := Lib.hid (HRF.out cl (List.mem_of_getElem? hcl))
          have HRY := Lib.hid (S.wk.rch y (List.mem_of_getElem? hy6))
          have HY6 := Lib.hid hy6
          have HCL := Lib.hid hcl
          clear hy6 hcl d1 d2 d3 f6
          go_wp2_with fail
          go_big_quiet (fail)
          go_wp2
          go_loopw [6, 10] (fun lv i wr => ∃ (j : Nat) (outs : List Bool) (l : List Int), j ≤ m' ∧ i = .int .i64 j ∧ RS w wr #[.slice (some ⟨g, o, none⟩) n c, .slice R m d] n lv h.cs rs outs l ∧ Hid (Hps.Marked outs rs) ∧ Hid (Hps.Done h.cs outs l k) ∧ Hid (l[k]? = some (y : Int)) ∧ Hid (Hps.Marked outs (cl.r.take j))) (fun _ i _ => m' - (intOf i).toNat)
          case atStart => exact ⟨0, _, _, Nat.zero_le _, rfl, S.draws _, HM, HD, HY6, Lib.hid (by rw [List.take_zero]; exact Hps.Marked.nil _)⟩
          case round =>
            clear S HM HD HY6 d6 z0 d3' hle hlt hlt' hk
            obtain ⟨j, outs, l, hj, rfl, S, HM, HD, HY6, HMJ⟩ := hrel
            have hlen : outs.length = n := S.wk.len.trans hlc
            have hkl : k < l.length := (List.getElem?_eq_some_iff.1 HY6.out).1
            by_cases hlt : j < m'
            · obtain ⟨gr, or, x, e2, hgr, hx, d0⟩ := hi.at_ hlt
              subst e2
              have d1 := (S.bel.cell (p := ⟨gr, or + j, none⟩) hgr).trans d0
              have hlt' : (j : Int) < m' := by omega
              have HT := Lib.hid (take_snocI hx)
              have hok := Hps.okRefs_at HOK.out hx
              by_cases hx0 : 0 ≤ x
              · obtain ⟨z, rfl, hz, _⟩ := Hps.okRef_nat hok hx0
                have HRC := Lib.hid (Hps.Rch.step HRY.out HCL.out (List.mem_of_getElem? hx))
                rw [hlc] at hz
                obtain ⟨g', o', b, e1, _, hbk, c1⟩ := S.own.reads.at_ (k := z) hz
                injection e1 with e1
                injection e1 with e2 e3
                subst e2 e3
                rw [Nat.zero_add] at c1
                have hz' : (z : Int) < n := by omega
                clear hx hok
                cases b
                · have HBK := Lib.hid hbk
                  have fz : wr.frozen? ⟨w.heap.size + 1, z, none⟩ = false := S.own.frozen hlen z
                  have d2 := ((S.bel.setCell (p := ⟨w.heap.size + 1, z, none⟩) (by simp) (.bool true)).cell (p := ⟨gr, or + j, none⟩) hgr).trans d0
                  have ow := S.pre z
                  have rr : IS ((wr.setCell ⟨w.heap.size + 1, z, none⟩ (.bool true)).alloc (.cells #[.int .i64 z] 3)) ((wr.setCell ⟨w.heap.size + 1, z, none⟩ (.bool true)).alloc (.cells #[.int .i64 z] 3)).heap.size (some ⟨(wr.setCell ⟨w.heap.size + 1, z, none⟩ (.bool true)).heap.size, 0, none⟩) 1 [(z : Int)] := (own_oneI _ (z : Int) 0 (Nat.zero_le _)).reads
                  have hyn : l.length + 1 ≤ 1099511627776 := by have := S.wk.le; omega
                  have hsz := S.big
                  simp only [World.size_setCell] at rr
                  clear hbk
                  go_wp2_with (at_builtin; refine wpList_appendI rfl (.tmp 92) (.tmp 97) rfl (w.heap.size + 2) _ l rfl ow (some ⟨wr.heap.size, 0, none⟩) 1 1 _ [(z : Int)] rfl rr hyn (by simp; omega) ?_; intro v5 w5 o5 g5 s5)
                  go_roundw
                  case rel => exact ⟨j + 1, _, _, by omega, by go_num, S.mark hlen HBK.out HRC.out o5 g5, Lib.hid (HM.out.set z), Lib.hid (HD.out.more (by omega)), Lib.hid (by rw [List.getElem?_append_left hkl]; exact HY6.out), Lib.hid (by rw [HT.out]; exact (HMJ.out.set z).snoc fun _ => by simp [hlen, hz])⟩
                  case measure => simp [intOf]; omega
                · have HBK := Lib.hid hbk
                  clear hbk
                  go_wp2_with fail
                  go_roundw
                  case rel => exact ⟨j + 1, _, _, by omega, by go_num, S, HM, HD, HY6, Lib.hid (by rw [HT.out]; exact HMJ.out.snoc fun _ => by simpa using HBK.out)⟩
                  case measure => simp [intOf]; omega
              · have hx0' : decide ((0 : Int) ≤ x) = false := decide_eq_false hx0
                clear hx hok
                go_wp2_with fail
                go_roundw
                case rel => exact ⟨j + 1, _, _, by omega, by go_num, S, HM, HD, HY6, Lib.hid (by rw [HT.out]; exact HMJ.out.snoc fun hh => absurd hh hx0)⟩
                case measure => simp [intOf]; omega
            · obtain rfl : j = m' := by omega
              have HMJ2 := Lib.hid (show Hps.Marked outs cl.r by
                have := HMJ.out
                rwa [List.take_of_length_le (by have := hi.1; omega)] at this)
              have hle := S.wk.le
              go_wp2_with fail
              go_roundw
              case rel => exact ⟨k + 1, _, _, by omega, by go_num, S, HM, Lib.hid (HD.out.succ HY6.out HCL.out HMJ2.out)⟩
              case measure => simp [intOf]; omega
        · obtain rfl : k = l.length := by omega
          have HF := Lib.hid (S.wk.fin HM.out HD.out)
          go_wp2_with fail
          go_ret
          exact ⟨_, rfl, by rw [← HF.out]; exact S.own, S.bel⟩
end Go.Proofs.YtfgdenmlfloloaaDoor

namespace Go.Proofs.YtfgdenmlfloloaaDoor
open Go.RowKit
namespace Hps
theorem valid_small {h : Hp} (hv : validH h = true) : h.cs.length ≤ 40 ∧ h.rt.length = 4 ∧ ∀ cl ∈ h.cs, cl.r.length ≤ 3 :=
  ⟨(valid_iff.1 hv).2.1, (valid_iff.1 hv).2.2.1, fun cl hcl => (okCell_iff.1 ((valid_iff.1 hv).1 cl hcl)).2.2.1⟩
end Hps
set_option maxHeartbeats 1000000 in
theorem mReachable_any (A R : Option Addr) (n c m d : Nat) (h : Hp) (w : World) (hs : HS w w.heap.size A n R m h) (hn : n ≤ 1099511627776) (hm : m ≤ 1099511627776) :
    Calls Tryd.prog 85 #[heapV A n c R m d] w (GaveO w (Hps.reachH h)) := by
  have hlc := hs.cells.1
  have hlr := hs.roots.1
  have b0 : Below w.heap.size w (w.alloc (.cells #[.slice A n c, .slice R m d] 26)) := (Below.refl _ _).alloc (Nat.le_refl _) _
  have r0 := hs.up b0
  have hw0 := Rw.new w 26 #[.slice A n c, .slice R m d]
  cases hv : Hps.validH h
  · have HR := Lib.hid (show Hps.reachH h = [] by rw [Hps.reachH, hv]; rfl)
    have HV := Lib.hid hv
    clear hv
    go_enter Tryd.func85, Tryd.ntmps85
    go_wp2_with fail
    refine (mHeapValid_any _ _ _ _ _ _ h _ r0 hn hm).mono ?_
    rw [HV.out]
    rintro e w1 ⟨rfl, b1⟩
    have bb1 := b0.trans (b1.mono b0.size)
    have on := own_noneO w1 w.heap.size bb1.size
    have bl := bb1.alloc bb1.size (.cells #[] 4)
    go_wp2_with fail
    go_ret
    exact ⟨_, rfl, by rw [HR.out]; exact on, bl⟩
  · have HR := Lib.hid (show Hps.reachH h = Hps.reachL h.cs h.rt by rw [Hps.reachH, hv]; rfl)
    have HV := Lib.hid hv
    obtain ⟨s1, s2, s3⟩ := Hps.valid_small hv
    have HRF := Lib.hid (Hps.valid_refs hv)
    have HRO := Lib.hid (Hps.valid_iff.1 hv).2.2.2
    have HS3 := Lib.hid s3
    clear hv s3
    go_enter Tryd.func85, Tryd.ntmps85
    go_wp2_with fail
    refine (mHeapValid_any _ _ _ _ _ _ h _ r0 hn hm).mono ?_
    rw [HV.out]
    rintro e w1 ⟨rfl, b1⟩
    have bb1 := b0.trans (b1.mono b0.size)
    have r1 := r0.up b1
    have hw1 := hw0.keep b1 (by simp)
    have z0 : w1.cell? ⟨w.heap.size, 0, none⟩ = some (.slice A n c) := hw1.cell 0
    have z1 : w1.cell? ⟨w.heap.size, 1, none⟩ = some (.slice R m d) := hw1.cell 1
    clear r0 hw0
    go_wp2_with fail
    refine (l7Reach_any _ _ _ _ _ _ _ _ _ h h.rt _ r1 r1.roots (by omega) (by omega) HRO.out HRF.out (fun cl hcl => by have := HS3.out cl hcl; omega)).mono ?_
    rintro e w2 ⟨v2, rfl, o2, b2⟩
    go_wp2_with fail
    go_ret
    exact ⟨_, rfl, by rw [HR.out]; exact o2.base bb1.size, bb1.trans (b2.mono bb1.size)⟩
end Go.Proofs.YtfgdenmlfloloaaDoor

namespace Go.Proofs.YtfgdenmlfloloaaDoor
open Go.RowKit
set_option maxRecDepth 100000
/-- a heap of the call's own in the box b; what was there before the world w0 is as it was -/
structure BoxSt (w0 wr : World) (b : Nat) (vc vr : Value) (rvs : List Value) (h : Hp) : Prop where
  own : OwnHx wr w0.heap.size vc vr rvs h
  apart : Apart (some b) (vc :: vr :: rvs)
  box : Rw wr b 26 #[vc, vr]
  low : Below w0.heap.size w0 wr
  lo : w0.heap.size ≤ b
section
variable {w0 wr w1 : World} {b g c d i k : Nat} {vc vr : Value} {rvs : List Value} {h : Hp} {cl : Cl}
theorem BoxSt.up (S : BoxSt w0 wr b vc vr rvs h) (hw : Below wr.heap.size wr w1) : BoxSt w0 w1 b vc vr rvs h :=
  ⟨S.own.below hw (Nat.le_refl _), S.apart, S.box.keep hw S.box.lt, S.low.trans (hw.mono S.low.size), S.lo⟩
theorem BoxSt.drew (S : BoxSt w0 wr b vc vr rvs h) : BoxSt w0 wr.drew b vc vr rvs h := S.up (Below.refl _ _).drew
theorem BoxSt.into (S : BoxSt w0 wr b vc vr rvs h) {v : Value} (hv : v ∈ vc :: vr :: rvs) (hg : v.ownBlock = some g) {rvs' : List Value} {h' : Hp} (u : Value)
    (ho : OwnHx (wr.setCell ⟨g, i, none⟩ u) w0.heap.size vc vr rvs' h') (ha : ∀ v ∈ rvs', v.ownBlock = none ∨ v.ownBlock ≠ some b) : BoxSt w0 (wr.setCell ⟨g, i, none⟩ u) b vc vr rvs' h' := by
  have h1 := S.own.blocks hv hg
  have h2 : b ≠ g := by
    rcases S.apart v hv with e | e
    · rw [hg] at e; cases e
    · intro e'; rw [hg] at e; exact e (by rw [e'])
  refine ⟨ho, ?_, S.box.other h2 u, S.low.setCell (p := ⟨g, i, none⟩) (by show w0.heap.size ≤ g; omega) u, S.lo⟩
  intro x hx
  simp only [List.mem_cons] at hx
  rcases hx with rfl | rfl | hx
  · exact S.apart x (by simp)
  · exact S.apart x (by simp)
  · exact ha x hx
theorem BoxSt.root {m : Nat} (S : BoxSt w0 wr b vc (.slice (some ⟨g, 0, none⟩) m d) rvs h) (hm : h.rt.length = m) (x : Int) : BoxSt w0 (wr.setCell ⟨g, i, none⟩ (.int .i64 x)) b vc (.slice (some ⟨g, 0, none⟩) m d) rvs ⟨h.cs, h.rt.set i x⟩ := by
  subst hm
  exact S.into (v := .slice (some ⟨g, 0, none⟩) h.rt.length d) (by simp) rfl _ (S.own.root x) fun v hv => S.apart v (by simp [hv])
theorem BoxSt.data {n : Nat} (S : BoxSt w0 wr b (.slice (some ⟨g, 0, none⟩) n d) vr rvs h) (hn : h.cs.length = n) (hc : h.cs[k]? = some cl) (x : Int) : BoxSt w0 (wr.setCell ⟨g, k * 3 + 1, none⟩ (.int .i64 x)) b (.slice (some ⟨g, 0, none⟩) n d) vr rvs ⟨h.cs.set k ⟨cl.u, x, cl.r⟩, h.rt⟩ := by
  subst hn
  exact S.into (v := .slice (some ⟨g, 0, none⟩) h.cs.length d) (by simp) rfl _ (S.own.data hc x) fun v hv => S.apart v (by simp [hv])
theorem BoxSt.ref1 {m : Nat} (S : BoxSt w0 wr b vc vr rvs h) (hc : h.cs[k]? = some cl) (hv : rvs[k]? = some (.slice (some ⟨g, 0, none⟩) m d)) (hm : cl.r.length = m) (x : Int) : BoxSt w0 (wr.setCell ⟨g, i, none⟩ (.int .i64 x)) b vc vr rvs ⟨h.cs.set k ⟨cl.u, cl.d, cl.r.set i x⟩, h.rt⟩ := by
  subst hm
  exact S.into (v := .slice (some ⟨g, 0, none⟩) cl.r.length d) (by simp [List.mem_of_getElem? hv]) rfl _ (S.own.ref1 hc hv x) fun v hv => S.apart v (by simp [hv])
theorem BoxSt.snoc {v9 v8 : Value} (S : BoxSt w0 wr b vc vr rvs h) (hG : wr.grownBy w1 vc.ownBlock)
    (o9 : w1.ownsRow w0.heap.size 43 3 v9 (h.cs.length + 1) (flatC h.cs rvs ++ [.bool cl.u, .int .i64 cl.d, v8])) (q : v9.ownBlock = vc.ownBlock ∨ v9.ownBlock = some wr.heap.size)
    (o8 : OwnI wr w0.heap.size v8 cl.r) (hap : ∀ v ∈ vc :: vr :: rvs, v8.ownBlock = none ∨ v8.ownBlock ≠ v.ownBlock) (h8b : v8.ownBlock ≠ some b) :
    BoxSt w0 (w1.setCell ⟨b, 0, none⟩ v9) b v9 vr (rvs ++ [v8]) ⟨h.cs ++ [cl], h.rt⟩ := by
  have hn := S.own.snoc hG o9 q o8 hap
  have hlo := S.lo
  have hbl := S.box.lt
  have hvcb : some b ≠ vc.ownBlock := by
    rcases S.apart vc (by simp) with e | e
    · rw [e]; simp
    · exact fun h => e h.symm
  have ap : Apart (some b) (v9 :: vr :: (rvs ++ [v8])) := by
    intro v hv
    simp only [List.mem_cons, List.mem_append, List.not_mem_nil, or_false] at hv
    rcases hv with rfl | rfl | hv | rfl
    · right
      rcases q with e | e
      · rw [e]; exact fun h => hvcb h.symm
      · rw [e]; intro e'; injection e' with e'; omega
    · exact S.apart v (by simp)
    · exact S.apart v (by simp [hv])
    · exact .inr h8b
  refine ⟨hn.far (put_any w1 b 0 v9) ap, ap, (Rw.far S.box hG hvcb).put 0 v9, ?_, hlo⟩
  exact (S.low.grown hG S.low.size (fun kk hk => (S.own.blocks (v := vc) (by simp) hk).1)).setCell (p := ⟨b, 0, none⟩) (by show w0.heap.size ≤ b; omega) _
theorem BoxSt.cell {n : Nat} {rv : Value} {old : Cl} (S : BoxSt w0 wr b (.slice (some ⟨g, 0, none⟩) n c) vr rvs h) (hn : h.cs.length = n) (hc : h.cs[k]? = some old) (o : OwnI wr w0.heap.size rv cl.r) (hap : ∀ v ∈ (Value.slice (some ⟨g, 0, none⟩) n c) :: vr :: rvs, rv.ownBlock = none ∨ rv.ownBlock ≠ v.ownBlock) (h8b : rv.ownBlock = none ∨ rv.ownBlock ≠ some b) :
    BoxSt w0 (((wr.setCell ⟨g, k * 3, none⟩ (.bool cl.u)).setCell ⟨g, k * 3 + 1, none⟩ (.int .i64 cl.d)).setCell ⟨g, k * 3 + 2, none⟩ rv) b (.slice (some ⟨g, 0, none⟩) n c) vr (rvs.set k rv) ⟨h.cs.set k cl, h.rt⟩ := by
  subst hn
  have hm : (Value.slice (some ⟨g, 0, none⟩) h.cs.length c) ∈ (Value.slice (some ⟨g, 0, none⟩) h.cs.length c) :: vr :: rvs := by simp
  have h1 : w0.heap.size ≤ g ∧ g < wr.heap.size := S.own.blocks hm rfl
  have h2 : b ≠ g := by
    rcases S.apart _ hm with e | e
    · cases e
    · intro e'; exact e (by rw [e']; rfl)
  refine ⟨S.own.cell hc o hap, ?_, ((S.box.other h2 _).other h2 _).other h2 _, ?_, S.lo⟩
  · intro x hx
    simp only [List.mem_cons] at hx
    rcases hx with rfl | rfl | hx
    · exact S.apart _ (by simp)
    · exact S.apart x (by simp)
    · rcases List.mem_or_eq_of_mem_set hx with hx | rfl
      · exact S.apart x (by simp [hx])
      · exact h8b
  · exact ((S.low.setCell (p := ⟨g, k * 3, none⟩) (by show w0.heap.size ≤ g; omega) _).setCell (p := ⟨g, k * 3 + 1, none⟩) (by show w0.heap.size ≤ g; omega) _).setCell (p := ⟨g, k * 3 + 2, none⟩) (by show w0.heap.size ≤ g; omega) _
theorem BoxSt.ownH (S : BoxSt w0 wr b vc vr rvs h) : OwnH wr w0.heap.size vc vr h := ⟨rvs, S.own⟩
theorem BoxSt.of {w1 : World} (o : OwnH w1 w0.heap.size vc vr h) (hb : Below w0.heap.size w0 w1) : ∃ rvs, BoxSt w0 (w1.alloc (.cells #[vc, vr] 26)) w1.heap.size vc vr rvs h := by
  obtain ⟨rvs, own⟩ := o
  exact ⟨rvs, own.below ((Below.refl _ _).alloc (Nat.le_refl _) _) (Nat.le_refl _), own.apart_new (Nat.le_refl _), Rw.new _ _ _, hb.alloc hb.size _, hb.size⟩
end
set_option maxHeartbeats 4000000 in
theorem l11Drop_any (A R D : Option Addr) (n c m d e : Nat) (h : Hp) (bs : List Bool) (w : World) (hs : HS w w.heap.size A n R m h) (ho : OS w w.heap.size D n bs) (hn : n ≤ 1000000) (hm : m ≤ 1000000) (h3 : ∀ cl ∈ h.cs, cl.r.length ≤ 1000000) :
    Calls Tryd.prog 138 #[heapV A n c R m d, .slice D n e] w (GaveH w (Hps.dropH h bs)) := by
  have hlc := hs.cells.1
  have hlr := hs.roots.1
  have hlb := ho.1
  have b2 : Below w.heap.size w ((w.alloc (.cells #[.slice A n c, .slice R m d] 26)).alloc (.cells #[.slice none 0 0, .slice none 0 0] 26)) := ((Below.refl w.heap.size w).alloc (Nat.le_refl _) _).alloc (by simp) _
  have s2 := hs.up b2
  have q2 := Rw.new (w.alloc (.cells #[.slice A n c, .slice R m d] 26)) 26 #[.slice none 0 0, .slice none 0 0]
  simp only [World.size_alloc] at q2
  have q1 := (Rw.new w 26 #[.slice A n c, .slice R m d]).alloc (.cells #[.slice none 0 0, .slice none 0 0] 26)
  have hz : ((w.alloc (.cells #[.slice A n c, .slice R m d] 26)).alloc (.cells #[.slice none 0 0, .slice none 0 0] 26)).heap.size = w.heap.size + 1 + 1 := by simp
  go_enter Tryd.func138, Tryd.ntmps138
  go_upto_region 1 with fail
  generalize (w.alloc (.cells #[.slice A n c, .slice R m d] 26)).alloc (.cells #[.slice none 0 0, .slice none 0 0] 26) = w0 at b2 s2 q1 q2 hz ⊢
  have HZ := Lib.hid hz
  clear hz
  have y0 : w0.cell? ⟨w.heap.size, 0, none⟩ = some (.slice A n c) := q1.cell 0
  have y1 : w0.cell? ⟨w.heap.size, 1, none⟩ = some (.slice R m d) := q1.cell 1
  go_wp2_with fail
  clear y0 y1 q1
  refine (l7Copy_any _ _ _ _ _ _ h _ s2 hn hm h3).mono ?_
  rintro e w1 ⟨vc, vr, rfl, oh, b1⟩
  obtain ⟨rvs, S0⟩ := BoxSt.of oh b1
  obtain ⟨Ac, cc, Rc, dc, rfl, rfl, -⟩ := oh.form
  rw [hlc, hlr] at S0 ⊢
  clear oh b1 s2 h3
  go_upto_region 2 with fail
  generalize w1.alloc (.cells #[.slice Ac n cc, .slice Rc m dc] 26) = w3 at S0 ⊢
  generalize w1.heap.size = b at S0 ⊢
  clear w1
  have HLC := Lib.hid hlc
  have HLB := Lib.hid hlb
  clear hlc hlb hlr
  go_wp2_with fail
  go_loopw [6] (fun i wr => ∃ (k : Nat) (rvs : List Value), k ≤ n ∧ i = .int .i64 k ∧ BoxSt w0 wr b (.slice Ac n cc) (.slice Rc m dc) rvs ⟨Hps.dropL h.cs (bs.take k), h.rt⟩) (fun i _ => n - (intOf i).toNat)
  case atStart => exact ⟨0, rvs, by omega, rfl, by rw [List.take_zero, Hps.dropL_nil]; exact S0⟩
  case round =>
    clear S0 rvs
    obtain ⟨k, rvs, hk, rfl, S⟩ := hrel
    have bw := b2.trans (S.low.mono b2.size)
    have x0 : wr.cell? ⟨b, 0, none⟩ = some (.slice Ac n cc) := S.box.cell 0
    have x1 : wr.cell? ⟨b, 1, none⟩ = some (.slice Rc m dc) := S.box.cell 1
    by_cases hlt : k < n
    · obtain ⟨g, o, bl, rfl, hg, hbl, c1⟩ := (ho.below bw).at_ hlt
      have hlt' : (k : Int) < n := by omega
      have hkl : k < h.cs.length := by rw [HLC.out]; exact hlt
      have HS := Lib.hid (Hps.dropL_succ hbl hkl)
      cases bl
      · clear hbl hkl
        have HS' := HS.out
        rw [if_neg (by simp)] at HS'
        have HS2 := Lib.hid HS'
        clear HS' HS
        go_wp2_with fail
        go_roundw
        case rel => exact ⟨k + 1, rvs, by omega, by go_num, by rw [HS2.out]; exact S⟩
        case measure => simp [intOf]; omega
      · have HS' := HS.out
        rw [if_pos rfl] at HS'
        have HS2 := Lib.hid HS'
        have hdl : (Hps.dropL h.cs (bs.take k)).length = n := by rw [Hps.dropL_len]; exact HLC.out
        obtain ⟨old, hold⟩ : ∃ old, (Hps.dropL h.cs (bs.take k))[k]? = some old := ⟨_, List.getElem?_eq_getElem (show k < _ by rw [hdl]; exact hlt)⟩
        obtain ⟨gc, v, e4, hgc1, hgc2, -, -, y0, y1, y2, fz⟩ := S.own.cell_at hold
        subst e4
        have f0 := fz (k * 3)
        have f1 := fz (k * 3 + 1)
        have f2 := fz (k * 3 + 2)
        have SN := S.cell (cl := Hps.zeroCl) (rv := .slice none 0 0) hdl hold (World.ownsRow_nil _ _ _ _) (fun _ _ => .inl rfl) (.inl rfl)
        rw [← HS2.out] at SN
        have SH := Lib.hid SN
        clear hbl hkl hold hdl S SN HS HS' HS2 fz
        go_wp2_with fail
        go_roundw
        case rel => exact ⟨k + 1, _, by omega, by go_num, SH.out⟩
        case measure => simp [intOf]; omega
    · obtain rfl : k = n := by omega
      have HE := Lib.hid (show Hps.dropL h.cs (bs.take k) = Hps.dropL h.cs bs by rw [List.take_of_length_le (by rw [HLB.out]; omega)])
      have q3 := q2.keep S.low q2.lt
      have r2 : wr.frozen? ⟨w.heap.size + 1, 0, none⟩ = false := q3.frozen 0
      have r3 : wr.frozen? ⟨w.heap.size + 1, 1, none⟩ = false := q3.frozen 1
      have r4 : wr.cell? ⟨w.heap.size + 1, 0, none⟩ = some (.slice none 0 0) := q3.cell 0
      have r5 : wr.cell? ⟨w.heap.size + 1, 1, none⟩ = some (.slice none 0 0) := q3.cell 1
      have r6 : ((wr.setCell ⟨w.heap.size + 1, 0, none⟩ (.slice Ac k cc)).setCell ⟨w.heap.size + 1, 1, none⟩ (.slice Rc m dc)).cell? ⟨w.heap.size + 1, 0, none⟩ = some (.slice Ac k cc) := ((q3.put 0 (.slice Ac k cc)).put 1 (.slice Rc m dc)).cell 0
      have r7 : ((wr.setCell ⟨w.heap.size + 1, 0, none⟩ (.slice Ac k cc)).setCell ⟨w.heap.size + 1, 1, none⟩ (.slice Rc m dc)).cell? ⟨w.heap.size + 1, 1, none⟩ = some (.slice Rc m dc) := ((q3.put 0 (.slice Ac k cc)).put 1 (.slice Rc m dc)).cell 1
      have D := Lib.hid (S.ownH.out (w := w) (g := w.heap.size + 1) q2.lt bw (by omega))
      clear S q2 q3
      go_wp2_with fail
      exact bodyPost_ret (v := .agg #[.slice Ac k cc, .slice Rc m dc]) (by simp [results, Tryd.results138, go_sem, *]) rfl ⟨_, _, rfl, by rw [Hps.dropH, ← HE.out]; exact D.out.1, D.out.2⟩
end Go.Proofs.YtfgdenmlfloloaaDoor
namespace Go.Proofs.YtfgdenmlfloloaaDoor
open Go.RowKit
set_option maxRecDepth 100000
/-- a heap of the call's own, and a number -/
def GaveHN (w : World) (h : Hp) (k : Int) (e : Ending) (w' : World) : Prop := ∃ vc vr, e = .returned (.tuple #[.agg #[vc, vr], .int .i64 k]) ∧ OwnH w' w.heap.size vc vr h ∧ Below w.heap.size w w'
namespace Hps
theorem sweepH_no {h : Hp} {bs : List Bool} (e : validH h = false ∨ bs.length ≠ h.cs.length) : sweepH h bs = (zeroH, -1) := by
  unfold sweepH
  rcases e with e | e <;> simp [e]
theorem sweepH_bad {h : Hp} {bs : List Bool} (h1 : validH h = true) (h2 : bs.length = h.cs.length) (h3 : validH (dropH h (bs.map (!·))) = false) : sweepH h bs = (zeroH, -1) := by simp [sweepH, h1, h2, h3]
theorem sweepH_ok {h : Hp} {bs : List Bool} (h1 : validH h = true) (h2 : bs.length = h.cs.length) (h3 : validH (dropH h (bs.map (!·))) = true) : sweepH h bs = (dropH h (bs.map (!·)), (freedTo h.cs bs h.cs.length : Int)) := by simp [sweepH, h1, h2, h3]
theorem freedTo_kept {cs : List Cl} {bs : List Bool} {k : Nat} (h : bs[k]? = some true) : freedTo cs bs (k + 1) = freedTo cs bs k := by simp [freedTo, h]
theorem freedTo_free {cs : List Cl} {bs : List Bool} {k : Nat} {c : Cl} (h : bs[k]? = some false) (hc : cs[k]? = some c) : freedTo cs bs (k + 1) = freedTo cs bs k + (if c.u = true then 1 else 0) := by
  have : usedAt cs k = c.u := by simp [usedAt, hc]
  simp [freedTo, h, this]
theorem not_succ {bs : List Bool} {k : Nat} {b : Bool} (h : bs[k]? = some b) : (bs.take (k + 1)).map (!·) = (bs.take k).map (!·) ++ [!b] := by
  rw [List.take_add_one, h]
  simp
end Hps
set_option maxHeartbeats 4000000 in
theorem mSweepCells_any (A R D : Option Addr) (n c m d q e : Nat) (h : Hp) (bs : List Bool) (w : World) (hs : HS w w.heap.size A n R m h) (ho : OS w w.heap.size D q bs) (hn : n ≤ 1099511627776) (hm : m ≤ 1099511627776) (hq : q ≤ 1099511627776) :
    Calls Tryd.prog 121 #[heapV A n c R m d, .slice D q e] w (GaveHN w (Hps.sweepH h bs).1 (Hps.sweepH h bs).2) := by
  have hlc := hs.cells.1
  have hlr := hs.roots.1
  have hlb := ho.1
  have b2 : Below w.heap.size w ((w.alloc (.cells #[.slice A n c, .slice R m d] 26)).alloc (.cells #[.slice none 0 0, .slice none 0 0] 26)) := ((Below.refl w.heap.size w).alloc (Nat.le_refl _) _).alloc (by simp) _
  have s2 := hs.up b2
  have q3 := Rw.new (w.alloc (.cells #[.slice A n c, .slice R m d] 26)) 26 #[.slice none 0 0, .slice none 0 0]
  simp only [World.size_alloc] at q3
  have q1 := (Rw.new w 26 #[.slice A n c, .slice R m d]).alloc (.cells #[.slice none 0 0, .slice none 0 0] 26)
  go_enter Tryd.func121, Tryd.ntmps121
  go_wp2_with fail
  refine (mHeapValid_any _ _ _ _ _ _ h _ s2 hn hm).mono ?_
  rintro e w1 ⟨rfl, b1⟩
  replace q1 := q1.keep b1 q1.lt
  replace q3 := q3.keep b1 q3.lt
  replace b2 := b2.trans (b1.mono b2.size)
  have hG : w.heap.size + 1 < w1.heap.size := q3.lt
  clear b1 s2
  cases hv : Hps.validH h
  · have HF := Lib.hid (Hps.sweepH_no (bs := bs) (.inl hv))
    have r2 : (w1).frozen? ⟨w.heap.size + 1, 0, none⟩ = false := q3.frozen 0
    have r3 : (w1).frozen? ⟨w.heap.size + 1, 1, none⟩ = false := q3.frozen 1
    have r4 : (w1).cell? ⟨w.heap.size + 1, 0, none⟩ = some (.slice none 0 0) := q3.cell 0
    have r5 : (w1).cell? ⟨w.heap.size + 1, 1, none⟩ = some (.slice none 0 0) := q3.cell 1
    have r6 : (((w1).setCell ⟨w.heap.size + 1, 0, none⟩ (.slice none 0 0)).setCell ⟨w.heap.size + 1, 1, none⟩ (.slice none 0 0)).cell? ⟨w.heap.size + 1, 0, none⟩ = some (.slice none 0 0) := ((q3.put 0 (.slice none 0 0)).put 1 (.slice none 0 0)).cell 0
    have r7 : (((w1).setCell ⟨w.heap.size + 1, 0, none⟩ (.slice none 0 0)).setCell ⟨w.heap.size + 1, 1, none⟩ (.slice none 0 0)).cell? ⟨w.heap.size + 1, 1, none⟩ = some (.slice none 0 0) := ((q3.put 0 (.slice none 0 0)).put 1 (.slice none 0 0)).cell 1
    have D := Lib.hid ((own_zeroH (w1) (w1).heap.size (Nat.le_refl _)).out (w := w) (g := w.heap.size + 1) q3.lt b2 (by omega))
    clear q1 q3 b2 hv
    go_wp2_with fail
    exact bodyPost_ret (v := .tuple #[.agg #[.slice none 0 0, .slice none 0 0], .int .i64 (-1)]) (by simp [results, Tryd.results121, go_sem, *]) rfl ⟨_, _, by rw [HF.out], by rw [HF.out]; exact D.out.1, D.out.2⟩
  have x0 : w1.cell? ⟨w.heap.size, 0, none⟩ = some (.slice A n c) := q1.cell 0
  have x1 : w1.cell? ⟨w.heap.size, 1, none⟩ = some (.slice R m d) := q1.cell 1
  by_cases hqn : q = n
  case neg =>
    have HF := Lib.hid (Hps.sweepH_no (h := h) (bs := bs) (.inr (by rw [hlb, hlc]; exact hqn)))
    have hne : ((q : Int) != n) = true := by rw [bne_iff_ne]; omega
    have r2 : (w1).frozen? ⟨w.heap.size + 1, 0, none⟩ = false := q3.frozen 0
    have r3 : (w1).frozen? ⟨w.heap.size + 1, 1, none⟩ = false := q3.frozen 1
    have r4 : (w1).cell? ⟨w.heap.size + 1, 0, none⟩ = some (.slice none 0 0) := q3.cell 0
    have r5 : (w1).cell? ⟨w.heap.size + 1, 1, none⟩ = some (.slice none 0 0) := q3.cell 1
    have r6 : (((w1).setCell ⟨w.heap.size + 1, 0, none⟩ (.slice none 0 0)).setCell ⟨w.heap.size + 1, 1, none⟩ (.slice none 0 0)).cell? ⟨w.heap.size + 1, 0, none⟩ = some (.slice none 0 0) := ((q3.put 0 (.slice none 0 0)).put 1 (.slice none 0 0)).cell 0
    have r7 : (((w1).setCell ⟨w.heap.size + 1, 0, none⟩ (.slice none 0 0)).setCell ⟨w.heap.size + 1, 1, none⟩ (.slice none 0 0)).cell? ⟨w.heap.size + 1, 1, none⟩ = some (.slice none 0 0) := ((q3.put 0 (.slice none 0 0)).put 1 (.slice none 0 0)).cell 1
    have D := Lib.hid ((own_zeroH (w1) (w1).heap.size (Nat.le_refl _)).out (w := w) (g := w.heap.size + 1) q3.lt b2 (by omega))
    clear q1 q3 b2 hv hqn
    go_wp2_with fail
    exact bodyPost_ret (v := .tuple #[.agg #[.slice none 0 0, .slice none 0 0], .int .i64 (-1)]) (by simp [results, Tryd.results121, go_sem, *]) rfl ⟨_, _, by rw [HF.out], by rw [HF.out]; exact D.out.1, D.out.2⟩
  subst hqn
  have hn40 : q ≤ 40 := by rw [← hlc]; exact (Hps.valid_iff.1 hv).2.1
  have hm4 : m = 4 := by rw [← hlr]; exact (Hps.valid_iff.1 hv).2.2.1
  have H3 := Lib.hid (fun cl (hcl : cl ∈ h.cs) => show cl.r.length ≤ 1000000 by have := (Hps.okCell_iff.1 ((Hps.valid_iff.1 hv).1 cl hcl)).2.2.1; omega)
  have HLB := Lib.hid (show bs.length = h.cs.length by rw [hlb, hlc])
  have HLC := Lib.hid hlc
  have HB := Lib.hid hlb
  have HV := Lib.hid hv
  have HM := Lib.hid hm4
  have o0 := own_noneO w1 w1.heap.size (Nat.le_refl _)
  have e0 : Below w1.heap.size w1 (w1.alloc (.cells #[] 4)) := (Below.refl _ _).alloc (Nat.le_refl _) _
  clear hlb hlc hlr hv hm4
  go_wp2_with fail
  go_loopw [6, 7, 8] (fun v f i wr => ∃ k : Nat, k ≤ q ∧ i = .int .i64 k ∧ f = .int .i64 (Hps.freedTo h.cs bs k) ∧ OwnO wr w1.heap.size v ((bs.take k).map (!·)) ∧ Below w1.heap.size w1 wr) (fun _ _ i _ => q - (intOf i).toNat)
  case atStart => exact ⟨0, by omega, rfl, rfl, by rw [List.take_zero]; exact o0, e0⟩
  case round =>
    clear o0 e0
    obtain ⟨k, hk, rfl, rfl, ow, bb⟩ := hrel
    have bw := b2.trans (bb.mono b2.size)
    have x0' : wr.cell? ⟨w.heap.size, 0, none⟩ = some (.slice A q c) := (q1.keep bb q1.lt).cell 0
    have x1' : wr.cell? ⟨w.heap.size, 1, none⟩ = some (.slice R m d) := (q1.keep bb q1.lt).cell 1
    obtain ⟨Av, cv, e1, -⟩ := ow.form
    have hlen : ((bs.take k).map (!·)).length = k := by rw [List.length_map, List.length_take, HB.out]; omega
    rw [hlen] at e1
    subst e1
    have hfl := Hps.freedTo_le h.cs bs k
    by_cases hlt : k < q
    · obtain ⟨g, o, bl, rfl, hg, hbl, c1⟩ := (ho.below bw).at_ hlt
      obtain ⟨g2, o2, cl, A', m', cc, rfl, hg2, hcl, d1, d2, d3, -, -⟩ := (hs.cells.below bw).at_ hlt
      have hlt' : (k : Int) < q := by omega
      have HN := Lib.hid (Hps.not_succ hbl)
      have ow2 := World.ownsRow.alloc ow (.cells #[.bool (!bl)] 4)
      have rr : OS (wr.alloc (.cells #[.bool (!bl)] 4)) (wr.alloc (.cells #[.bool (!bl)] 4)).heap.size (some ⟨wr.heap.size, 0, none⟩) 1 [!bl] := (own_oneO wr (!bl) 0 (Nat.zero_le _)).reads
      have bsz := bb.size
      have WB := Lib.hid (fun (w5 : World) (g5 : (wr.alloc (.cells #[.bool (!bl)] 4)).grownBy w5 (Value.slice Av k cv).ownBlock) => show Below w1.heap.size w1 w5 from (bb.alloc bb.size _).grown g5 (by simp; omega) (fun kk hk => (World.ownsRow.lt ow kk hk).1))
      have hgw := Nat.lt_of_lt_of_le hg (b2.size)
      have hgw2 := Nat.lt_of_lt_of_le hg2 (b2.size)
      have hq1 := q1.lt
      cases bl
      · have HFR := Lib.hid (Hps.freedTo_free hbl hcl)
        have y1 : w1.cell? ⟨g, o + k, none⟩ = some (.bool false) := (bb.cell (p := ⟨g, o + k, none⟩) hgw).symm.trans c1
        have y2 : w1.cell? ⟨g2, o2 + k * 3, none⟩ = some (.bool cl.u) := (bb.cell (p := ⟨g2, o2 + k * 3, none⟩) hgw2).symm.trans d1
        clear hbl hcl d2 d3 ow
        simp only [Bool.not_false] at ow2 rr WB HN
        cases hu : cl.u
        · rw [hu] at HFR d1 y2
          simp only [Bool.false_eq_true, if_false, Nat.add_zero] at HFR
          go_wp2_with (at_builtin; refine wpList_appendO rfl (.tmp 29) (.tmp 35) rfl w1.heap.size _ ((bs.take k).map (!·)) rfl ow2 (some ⟨wr.heap.size, 0, none⟩) 1 1 _ [true] rfl rr (by rw [hlen]; omega) (by simp; omega) ?_; intro v5 w5 o5 g5 s5; have BN := WB.out w5 g5; have c5 := (BN.cell (p := ⟨g, o + k, none⟩) hgw).trans y1; have y5 := (BN.cell (p := ⟨w.heap.size, 0, none⟩) (by show w.heap.size < w1.heap.size; omega)).trans x0; have e5 := (BN.cell (p := ⟨g2, o2 + k * 3, none⟩) hgw2).trans y2)
          go_roundw
          case rel => exact ⟨k + 1, by omega, by go_num, by rw [HFR.out], by rw [HN.out]; exact o5, BN⟩
          case measure => simp [intOf]; omega
        · rw [hu] at HFR d1 y2
          simp only [if_true] at HFR
          go_wp2_with (at_builtin; refine wpList_appendO rfl (.tmp 29) (.tmp 35) rfl w1.heap.size _ ((bs.take k).map (!·)) rfl ow2 (some ⟨wr.heap.size, 0, none⟩) 1 1 _ [true] rfl rr (by rw [hlen]; omega) (by simp; omega) ?_; intro v5 w5 o5 g5 s5; have BN := WB.out w5 g5; have c5 := (BN.cell (p := ⟨g, o + k, none⟩) hgw).trans y1; have y5 := (BN.cell (p := ⟨w.heap.size, 0, none⟩) (by show w.heap.size < w1.heap.size; omega)).trans x0; have e5 := (BN.cell (p := ⟨g2, o2 + k * 3, none⟩) hgw2).trans y2)
          go_roundw
          case rel => exact ⟨k + 1, by omega, by go_num, by rw [HFR.out]; go_num, by rw [HN.out]; exact o5, BN⟩
          case measure => simp [intOf]; omega
      · have HFR := Lib.hid (Hps.freedTo_kept (cs := h.cs) hbl)
        have y1 : w1.cell? ⟨g, o + k, none⟩ = some (.bool true) := (bb.cell (p := ⟨g, o + k, none⟩) hgw).symm.trans c1
        have y2 : w1.cell? ⟨g2, o2 + k * 3, none⟩ = some (.bool cl.u) := (bb.cell (p := ⟨g2, o2 + k * 3, none⟩) hgw2).symm.trans d1
        clear hbl hcl d2 d3 ow
        simp only [Bool.not_true] at ow2 rr WB HN
        go_wp2_with (at_builtin; refine wpList_appendO rfl (.tmp 29) (.tmp 35) rfl w1.heap.size _ ((bs.take k).map (!·)) rfl ow2 (some ⟨wr.heap.size, 0, none⟩) 1 1 _ [false] rfl rr (by rw [hlen]; omega) (by simp; omega) ?_; intro v5 w5 o5 g5 s5; have BN := WB.out w5 g5; have c5 := (BN.cell (p := ⟨g, o + k, none⟩) hgw).trans y1; have y5 := (BN.cell (p := ⟨w.heap.size, 0, none⟩) (by show w.heap.size < w1.heap.size; omega)).trans x0; have e5 := (BN.cell (p := ⟨g2, o2 + k * 3, none⟩) hgw2).trans y2)
        go_roundw
        case rel => exact ⟨k + 1, by omega, by go_num, by rw [HFR.out], by rw [HN.out]; exact o5, BN⟩
        case measure => simp [intOf]; omega
    · obtain rfl : k = q := by omega
      have ow' : OwnO wr w1.heap.size (.slice Av k cv) (bs.map (!·)) := by
        rw [List.take_of_length_le (by rw [HB.out]; omega)] at ow
        exact ow
      have rd := ow'.reads
      have hsr := hs.up bw
      clear ow hlen x0 x1
      go_wp2_with fail
      refine (l11Drop_any _ _ _ _ _ _ _ _ h (bs.map (!·)) _ hsr rd (by omega) (by have := HM.out; omega) H3.out).mono ?_
      rintro e w5 ⟨vc, vr, rfl, oh, b5⟩
      have b6 := bw.trans (b5.mono bw.size)
      have q3 := (q3.keep bb q3.lt).keep b5 (q3.keep bb q3.lt).lt
      obtain ⟨rvs, S⟩ := BoxSt.of oh b5
      obtain ⟨Ac, cc, Rc, dc, rfl, rfl, -⟩ := oh.form
      have hlx : (Hps.dropH h (bs.map (!·))).cs.length = k := by rw [Hps.dropH, Hps.dropL_len]; exact HLC.out
      have hrx : (Hps.dropH h (bs.map (!·))).rt.length = m := hsr.roots.1
      rw [hlx, hrx] at oh S ⊢
      have b7 : Below w.heap.size w (w5.alloc (.cells #[.slice Ac k cc, .slice Rc m dc] 26)) := b6.alloc b6.size _
      replace q3 := q3.alloc (.cells #[.slice Ac k cc, .slice Rc m dc] 26)
      clear oh b5 b6 hsr x0' x1' rd ow'
      go_upto_region 12 with fail
      generalize w5.alloc (.cells #[.slice Ac k cc, .slice Rc m dc] 26) = w6 at S b7 q3 ⊢
      generalize w5.heap.size = b at S ⊢
      have z0 : w6.cell? ⟨b, 0, none⟩ = some (.slice Ac k cc) := S.box.cell 0
      have z1 : w6.cell? ⟨b, 1, none⟩ = some (.slice Rc m dc) := S.box.cell 1
      have hsx := S.own.reads
      go_wp2_with fail
      refine (mHeapValid_any _ _ _ _ _ _ _ _ hsx (by omega) (by have := HM.out; omega)).mono ?_
      rintro e w7 ⟨rfl, b8⟩
      replace q3 := q3.keep b8 q3.lt
      replace S := S.up b8
      replace b7 := b7.trans (b8.mono b7.size)
      clear hsx b8 z0 z1
      cases hv2 : Hps.validH (Hps.dropH h (bs.map (!·)))
      · have HF := Lib.hid (Hps.sweepH_bad HV.out HLB.out hv2)
        have r2 : (w7).frozen? ⟨w.heap.size + 1, 0, none⟩ = false := q3.frozen 0
        have r3 : (w7).frozen? ⟨w.heap.size + 1, 1, none⟩ = false := q3.frozen 1
        have r4 : (w7).cell? ⟨w.heap.size + 1, 0, none⟩ = some (.slice none 0 0) := q3.cell 0
        have r5 : (w7).cell? ⟨w.heap.size + 1, 1, none⟩ = some (.slice none 0 0) := q3.cell 1
        have r6 : (((w7).setCell ⟨w.heap.size + 1, 0, none⟩ (.slice none 0 0)).setCell ⟨w.heap.size + 1, 1, none⟩ (.slice none 0 0)).cell? ⟨w.heap.size + 1, 0, none⟩ = some (.slice none 0 0) := ((q3.put 0 (.slice none 0 0)).put 1 (.slice none 0 0)).cell 0
        have r7 : (((w7).setCell ⟨w.heap.size + 1, 0, none⟩ (.slice none 0 0)).setCell ⟨w.heap.size + 1, 1, none⟩ (.slice none 0 0)).cell? ⟨w.heap.size + 1, 1, none⟩ = some (.slice none 0 0) := ((q3.put 0 (.slice none 0 0)).put 1 (.slice none 0 0)).cell 1
        have D := Lib.hid ((own_zeroH (w7) (w7).heap.size (Nat.le_refl _)).out (w := w) (g := w.heap.size + 1) q3.lt b7 (by omega))
        clear S q3 b7 hv2 q1 b2 bb bw hfl
        go_wp2_with fail
        exact bodyPost_ret (v := .tuple #[.agg #[.slice none 0 0, .slice none 0 0], .int .i64 (-1)]) (by simp [results, Tryd.results121, go_sem, *]) rfl ⟨_, _, by rw [HF.out], by rw [HF.out]; exact D.out.1, D.out.2⟩
      · have HF := Lib.hid (Hps.sweepH_ok HV.out HLB.out hv2)
        rw [HLC.out] at HF
        have z0 : w7.cell? ⟨b, 0, none⟩ = some (.slice Ac k cc) := S.box.cell 0
        have z1 : w7.cell? ⟨b, 1, none⟩ = some (.slice Rc m dc) := S.box.cell 1
        have r2 : (w7).frozen? ⟨w.heap.size + 1, 0, none⟩ = false := q3.frozen 0
        have r3 : (w7).frozen? ⟨w.heap.size + 1, 1, none⟩ = false := q3.frozen 1
        have r4 : (w7).cell? ⟨w.heap.size + 1, 0, none⟩ = some (.slice none 0 0) := q3.cell 0
        have r5 : (w7).cell? ⟨w.heap.size + 1, 1, none⟩ = some (.slice none 0 0) := q3.cell 1
        have r6 : (((w7).setCell ⟨w.heap.size + 1, 0, none⟩ (.slice Ac k cc)).setCell ⟨w.heap.size + 1, 1, none⟩ (.slice Rc m dc)).cell? ⟨w.heap.size + 1, 0, none⟩ = some (.slice Ac k cc) := ((q3.put 0 (.slice Ac k cc)).put 1 (.slice Rc m dc)).cell 0
        have r7 : (((w7).setCell ⟨w.heap.size + 1, 0, none⟩ (.slice Ac k cc)).setCell ⟨w.heap.size + 1, 1, none⟩ (.slice Rc m dc)).cell? ⟨w.heap.size + 1, 1, none⟩ = some (.slice Rc m dc) := ((q3.put 0 (.slice Ac k cc)).put 1 (.slice Rc m dc)).cell 1
        have D := Lib.hid (S.ownH.out (w := w) (g := w.heap.size + 1) (by have := bb.size; omega) b7 (by omega))
        clear S q3 b7 hv2 q1 b2 bb bw hfl
        go_wp2_with fail
        exact bodyPost_ret (v := .tuple #[.agg #[.slice Ac k cc, .slice Rc m dc], .int .i64 (Hps.freedTo h.cs bs k : Int)]) (by simp [results, Tryd.results121, go_sem, *]) rfl ⟨_, _, by rw [HF.out], by rw [HF.out]; exact D.out.1, D.out.2⟩
end Go.Proofs.YtfgdenmlfloloaaDoor
namespace Go.Proofs.YtfgdenmlfloloaaDoor
open Go.RowKit
set_option maxRecDepth 100000
theorem OwnO.slices {w : World} {base : Nat} {v : Value} {xs : List Bool} (h : OwnO w base v xs) : ∃ A n c, v = .slice A n c := by
  obtain ⟨A, c, e, -⟩ := h.form
  exact ⟨A, _, c, e⟩
theorem OwnH.put {w : World} {base g : Nat} {vc vr : Value} {h : Hp} (ho : OwnH w base vc vr h) (hg : g < base) (u u' : Value) : OwnH ((w.setCell ⟨g, 0, none⟩ u).setCell ⟨g, 1, none⟩ u') base vc vr h := by
  obtain ⟨rvs, own⟩ := ho
  have ap : Apart (some g) (vc :: vr :: rvs) := own.apart_below hg
  exact ⟨rvs, (own.far (put_any w g 0 u) ap).far (put_any _ g 1 u') ap⟩
theorem OwnO.put2 {w : World} {base g : Nat} {v : Value} {xs : List Bool} (h : OwnO w base v xs) (hg : g < base) (u u' : Value) : OwnO ((w.setCell ⟨g, 0, none⟩ u).setCell ⟨g, 1, none⟩ u') base v xs := by
  have ne : v.ownBlock = none ∨ v.ownBlock ≠ some g := by
    cases e : v.ownBlock with
    | none => exact .inl rfl
    | some k => right; intro e'; injection e' with e'; have := (World.ownsRow.lt h k e).1; omega
  exact (h.far (put_any w g 0 u) ne).far (put_any _ g 1 u') ne
set_option maxRecDepth 100000 in
set_option maxHeartbeats 4000000 in
theorem mCollectSweep_any (A R : Option Addr) (n c m d : Nat) (h : Hp) (w : World) (hs : HS w w.heap.size A n R m h) (hn : n ≤ 1099511627776) (hm : m ≤ 1099511627776) :
    Calls Tryd.prog 91 #[heapV A n c R m d] w (GaveHN w (Hps.collectH h).1 (Hps.collectH h).2) := by
  have b2 : Below w.heap.size w ((w.alloc (.cells #[.slice A n c, .slice R m d] 26)).alloc (.cells #[.slice none 0 0, .slice none 0 0] 26)) := ((Below.refl w.heap.size w).alloc (Nat.le_refl _) _).alloc (by simp) _
  have q3 := Rw.new (w.alloc (.cells #[.slice A n c, .slice R m d] 26)) 26 #[.slice none 0 0, .slice none 0 0]
  simp only [World.size_alloc] at q3
  have q1 := (Rw.new w 26 #[.slice A n c, .slice R m d]).alloc (.cells #[.slice none 0 0, .slice none 0 0] 26)
  have hz : w.heap.size + 1 + 1 ≤ ((w.alloc (.cells #[.slice A n c, .slice R m d] 26)).alloc (.cells #[.slice none 0 0, .slice none 0 0] 26)).heap.size := by simp
  obtain ⟨rm, hrm⟩ : ∃ rm, Hps.reachH h = rm := ⟨_, rfl⟩
  obtain ⟨h2, hh2⟩ : ∃ h2, (Hps.collectH h).1 = h2 := ⟨_, rfl⟩
  obtain ⟨kk, hkk⟩ : ∃ kk, (Hps.collectH h).2 = kk := ⟨_, rfl⟩
  have hrl : rm.length ≤ 1099511627776 := by
    rw [← hrm, Hps.reachH]
    split
    · rw [Hps.reachL_len, hs.cells.1]; exact hn
    · simp
  have C1 := Lib.hid (fun (ww : World) (hh : HS ww ww.heap.size A n R m h) => by
    have := mReachable_any A R n c m d h ww hh hn hm
    rw [hrm] at this
    exact this)
  have C2 := Lib.hid (fun (ww : World) (Av : Option Addr) (nv cv : Nat) (hh : HS ww ww.heap.size A n R m h) (oo : OS ww ww.heap.size Av nv rm) => by
    have := mSweepCells_any A R Av n c m d nv cv h rm ww hh oo hn hm (by rw [← oo.1]; exact hrl)
    rw [show Hps.sweepH h rm = Hps.collectH h by rw [Hps.collectH, hrm], hh2, hkk] at this
    exact this)
  rw [hh2, hkk]
  clear hrm hh2 hkk hrl
  go_enter Tryd.func91, Tryd.ntmps91
  go_upto_region 1 with fail
  generalize (w.alloc (.cells #[.slice A n c, .slice R m d] 26)).alloc (.cells #[.slice none 0 0, .slice none 0 0] 26) = w0 at b2 q1 q3 hz ⊢
  refine wp_region_inv (by kernel_rfl) (by kernel_rfl) (fun L ac ww => ∃ t3 t4 t5 t6 t7 t8 t9 : Value, ac = { tmps := #[heapV A n c R m d, Value.pointer (some { block := w.heap.size, off := 0 }), Value.pointer (some { block := w.heap.size + 1, off := 0 }), t3, t4, t5, t6, t7, t8, t9], defers := [] } ∧ (Below (w.heap.size + 1) w0 ww) ∧ (∃ z0 z1 : Value, Rw ww (w.heap.size + 1) 26 #[z0, z1]) ∧ (L 4 = true → L 3 = true) ∧ (L 0 = true → t4 = .agg #[.slice A n c, .slice R m d]) ∧ (L 1 = true → t5 = .agg #[.slice A n c, .slice R m d]) ∧ (L 2 = true → ∃ (Av : Option Addr) (nv cv : Nat), t6 = .slice Av nv cv ∧ OwnO ww w0.heap.size (.slice Av nv cv) rm) ∧ (L 3 = true → ∃ (A5 : Option Addr) (n5 c5 : Nat) (R5 : Option Addr) (m5 d5 : Nat), t7 = .tuple #[.agg #[.slice A5 n5 c5, .slice R5 m5 d5], .int .i64 kk] ∧ OwnH ww w0.heap.size (.slice A5 n5 c5) (.slice R5 m5 d5) h2) ∧ (L 4 = true → ∃ (A5 : Option Addr) (n5 c5 : Nat) (R5 : Option Addr) (m5 d5 : Nat), t7 = .tuple #[.agg #[.slice A5 n5 c5, .slice R5 m5 d5], .int .i64 kk] ∧ t8 = .agg #[.slice A5 n5 c5, .slice R5 m5 d5]) ∧ (L 5 = true → t9 = .int .i64 kk) ∧ (L 6 = true → ∃ (A5 : Option Addr) (n5 c5 : Nat) (R5 : Option Addr) (m5 d5 : Nat), Rw ww (w.heap.size + 1) 26 #[.slice A5 n5 c5, .slice R5 m5 d5] ∧ OwnH ww w0.heap.size (.slice A5 n5 c5) (.slice R5 m5 d5) h2) ∧ (L 7 = true → t3 = .int .i64 kk)) ?h0 ?hstep ?hdone
  case h0 => exact ⟨_, _, _, _, _, _, _, rfl, (Below.refl _ _).drew, ⟨_, _, q3⟩, fun h => absurd h Bool.false_ne_true, (fun h => absurd h Bool.false_ne_true), (fun h => absurd h Bool.false_ne_true), (fun h => absurd h Bool.false_ne_true), (fun h => absurd h Bool.false_ne_true), (fun h => absurd h Bool.false_ne_true), (fun h => absurd h Bool.false_ne_true), (fun h => absurd h Bool.false_ne_true), (fun h => absurd h Bool.false_ne_true)⟩
  case hstep =>
    rintro L ac ww i o ho hL hd ⟨t3, t4, t5, t6, t7, t8, t9, rfl, I0, I1, I2, f0, f1, f2, f3, f4, f5, f6, f7⟩
    have hi : i < 8 := (Array.getElem?_eq_some_iff.1 ho).1
    obtain rfl | rfl | rfl | rfl | rfl | rfl | rfl | rfl : i = 0 ∨ i = 1 ∨ i = 2 ∨ i = 3 ∨ i = 4 ∨ i = 5 ∨ i = 6 ∨ i = 7 := by omega
    · obtain rfl := Option.some.inj ho
      have y0 : ww.cell? ⟨w.heap.size, 0, none⟩ = some (.slice A n c) := (I0.cell (p := ⟨w.heap.size, 0, none⟩) (Nat.lt_succ_self _)).trans (q1.cell 0)
      have y1 : ww.cell? ⟨w.heap.size, 1, none⟩ = some (.slice R m d) := (I0.cell (p := ⟨w.heap.size, 1, none⟩) (Nat.lt_succ_self _)).trans (q1.cell 1)
      refine wpOp_step rfl (fun K' hK => ?_)
      go_simp
      refine hK _ _ ?_
      exact ⟨_, _, _, _, _, _, _, rfl, (I0), (I1), (fun h => upd_mono (I2 (upd_ne h (by decide)))), (fun _ => rfl), (kp f1), (kp f2), (kp f3), (kp f4), (kp f5), (kp f6), (kp f7)⟩
    · obtain rfl := Option.some.inj ho
      have y0 : ww.cell? ⟨w.heap.size, 0, none⟩ = some (.slice A n c) := (I0.cell (p := ⟨w.heap.size, 0, none⟩) (Nat.lt_succ_self _)).trans (q1.cell 0)
      have y1 : ww.cell? ⟨w.heap.size, 1, none⟩ = some (.slice R m d) := (I0.cell (p := ⟨w.heap.size, 1, none⟩) (Nat.lt_succ_self _)).trans (q1.cell 1)
      refine wpOp_step rfl (fun K' hK => ?_)
      go_simp
      refine hK _ _ ?_
      exact ⟨_, _, _, _, _, _, _, rfl, (I0), (I1), (fun h => upd_mono (I2 (upd_ne h (by decide)))), (kp f0), (fun _ => rfl), (kp f2), (kp f3), (kp f4), (kp f5), (kp f6), (kp f7)⟩
    · obtain rfl := Option.some.inj ho
      have g1 := f1 (hd ⟨1, .data⟩ (by simp) rfl)
      subst g1
      refine wpOp_step rfl (fun K' hK => ?_)
      go_simp
      have hsw : HS ww ww.heap.size A n R m h := hs.up (b2.trans (I0.mono (Nat.le_succ _)))
      refine (C1.out ww hsw).mono ?_
      rintro e w' ⟨v1, rfl, oo, b5⟩
      obtain ⟨Av, nv, cv, rfl⟩ := oo.slices
      have hsz := I0.size
      obtain ⟨z0, z1, hz1⟩ := I1
      refine hK _ _ ?_
      exact ⟨_, _, _, _, _, _, _, rfl, (I0.trans (b5.mono (Nat.le_trans (by omega) hsz))), (⟨z0, z1, hz1.keep b5 hz1.lt⟩), (fun h => upd_mono (I2 (upd_ne h (by decide)))), (kp f0), (kp f1), (fun _ => ⟨_, _, _, rfl, oo.base hsz⟩), (fun h => by
        obtain ⟨A5, n5, c5, R5, m5, d5, r5, o5⟩ := f3 (upd_ne h (by decide))
        exact ⟨A5, n5, c5, R5, m5, d5, r5, o5.below b5 (Nat.le_refl _)⟩), (kp f4), (kp f5), (fun h => by
        obtain ⟨A5, n5, c5, R5, m5, d5, r5, o5⟩ := f6 (upd_ne h (by decide))
        exact ⟨A5, n5, c5, R5, m5, d5, r5.keep b5 r5.lt, o5.below b5 (Nat.le_refl _)⟩), (kp f7)⟩
    · obtain rfl := Option.some.inj ho
      have g0 := f0 (hd ⟨0, .data⟩ (by simp) rfl)
      have g2 := f2 (hd ⟨2, .data⟩ (by simp) rfl)
      subst g0
      obtain ⟨Av, nv, cv, rfl, o2⟩ := g2
      refine wpOp_step rfl (fun K' hK => ?_)
      go_simp
      have hsw : HS ww ww.heap.size A n R m h := hs.up (b2.trans (I0.mono (Nat.le_succ _)))
      refine (C2.out ww Av nv cv hsw o2.reads).mono ?_
      rintro e w' ⟨v1, v2, rfl, oh, b5⟩
      obtain ⟨A5, n5, c5, R5, m5, d5, rfl, rfl⟩ := oh.slices
      have hsz := I0.size
      obtain ⟨z0, z1, hz1⟩ := I1
      refine hK _ _ ?_
      exact ⟨_, _, _, _, _, _, _, rfl, (I0.trans (b5.mono (Nat.le_trans (by omega) hsz))), (⟨z0, z1, hz1.keep b5 hz1.lt⟩), (fun h => upd_mono (I2 (upd_ne h (by decide)))), (kp f0), (kp f1), (fun h => ⟨Av, nv, cv, rfl, o2.below b5 (Nat.le_refl _)⟩), (fun _ => ⟨_, _, _, _, _, _, rfl, oh.base hsz⟩), (fun h => absurd (I2 (upd_ne h (by decide))) (by rw [hL]; simp)), (kp f5), (fun h => by
        obtain ⟨A5, n5, c5, R5, m5, d5, r5, o5⟩ := f6 (upd_ne h (by decide))
        exact ⟨A5, n5, c5, R5, m5, d5, r5.keep b5 r5.lt, o5.below b5 (Nat.le_refl _)⟩), (kp f7)⟩
    · obtain rfl := Option.some.inj ho
      have g3 := f3 (hd ⟨3, .data⟩ (by simp) rfl)
      obtain ⟨A5, n5, c5, R5, m5, d5, rfl, o3⟩ := g3
      refine wpOp_step rfl (fun K' hK => ?_)
      go_simp
      refine hK _ _ ?_
      exact ⟨_, _, _, _, _, _, _, rfl, (I0), (I1), (fun _ => upd_mono (hd ⟨3, .data⟩ (by simp) rfl)), (kp f0), (kp f1), (kp f2), (fun _ => ⟨_, _, _, _, _, _, rfl, o3⟩), (fun _ => ⟨_, _, _, _, _, _, rfl, rfl⟩), (kp f5), (kp f6), (kp f7)⟩
    · obtain rfl := Option.some.inj ho
      have g3 := f3 (hd ⟨3, .data⟩ (by simp) rfl)
      obtain ⟨A5, n5, c5, R5, m5, d5, rfl, o3⟩ := g3
      refine wpOp_step rfl (fun K' hK => ?_)
      go_simp
      refine hK _ _ ?_
      exact ⟨_, _, _, _, _, _, _, rfl, (I0), (I1), (fun h => upd_mono (I2 (upd_ne h (by decide)))), (kp f0), (kp f1), (kp f2), (fun _ => ⟨_, _, _, _, _, _, rfl, o3⟩), (kp f4), (fun _ => rfl), (kp f6), (kp f7)⟩
    · obtain rfl := Option.some.inj ho
      have g4 := f4 (hd ⟨4, .data⟩ (by simp) rfl)
      have g3 := f3 (hd ⟨3, .chain⟩ (by simp) rfl)
      obtain ⟨A5, n5, c5, R5, m5, d5, rfl, rfl⟩ := g4
      obtain ⟨A6, n6, c6, R6, m6, d6, e6, oo⟩ := g3
      injection e6 with e6
      simp at e6
      obtain ⟨⟨rfl, rfl, rfl⟩, rfl, rfl, rfl⟩ := e6
      obtain ⟨z0, z1, hz1⟩ := I1
      have u0 := hz1.cell 0
      have u1 := hz1.cell 1
      have u2 := hz1.frozen 0
      have u3 := hz1.frozen 1
      simp at u0 u1
      refine wpOp_step rfl (fun K' hK => ?_)
      go_simp
      refine hK _ _ ?_
      exact ⟨_, _, _, _, _, _, _, rfl, ((I0.setCell (p := ⟨w.heap.size + 1, 0, none⟩) (Nat.le_refl _) _).setCell (p := ⟨w.heap.size + 1, 1, none⟩) (Nat.le_refl _) _), (⟨_, _, (hz1.put 0 _).put 1 _⟩), (fun h => upd_mono (I2 (upd_ne h (by decide)))), (kp f0), (kp f1), (fun h => by
        obtain ⟨Av, nv, cv, e, o2⟩ := f2 (upd_ne h (by decide))
        exact ⟨Av, nv, cv, e, o2.put2 (by omega) _ _⟩), (fun h => ⟨_, _, _, _, _, _, rfl, oo.put (by omega) _ _⟩), (kp f4), (kp f5), (fun _ => ⟨_, _, _, _, _, _, (hz1.put 0 _).put 1 _, oo.put (by omega) _ _⟩), (kp f7)⟩
    · obtain rfl := Option.some.inj ho
      have g5 := f5 (hd ⟨5, .data⟩ (by simp) rfl)
      subst g5
      refine wpOp_step rfl (fun K' hK => ?_)
      go_simp
      refine hK _ _ ?_
      exact ⟨_, _, _, _, _, _, _, rfl, (I0), (I1), (fun h => upd_mono (I2 (upd_ne h (by decide)))), (kp f0), (kp f1), (kp f2), (kp f3), (kp f4), (kp f5), (kp f6), (fun _ => rfl)⟩
  case hdone =>
    rintro L ac ww hall ⟨t3, t4, t5, t6, t7, t8, t9, rfl, I0, I1, I2, f0, f1, f2, f3, f4, f5, f6, f7⟩
    have e0 := f0 (hall 0 (by decide))
    have e1 := f1 (hall 1 (by decide))
    have e2 := f2 (hall 2 (by decide))
    have e3 := f3 (hall 3 (by decide))
    have e4 := f4 (hall 4 (by decide))
    have e5 := f5 (hall 5 (by decide))
    have e6 := f6 (hall 6 (by decide))
    have e7 := f7 (hall 7 (by decide))
    clear f0 f1 f2 f3 f4 f5 f6 f7
    obtain ⟨A5, n5, c5, R5, m5, d5, r5, o5⟩ := e6
    have r6 := r5.cell 0
    have r7 := r5.cell 1
    simp at r6 r7
    have bf : Below w.heap.size w ww := b2.trans (I0.mono (Nat.le_succ _))
    have of := o5.base (base' := w.heap.size) (by omega)
    clear e0 e1 e2 e3 e4 e5 I1 I2 C1 C2 q1 q3 hs o5 r5
    go_wp2_with fail
    exact bodyPost_ret (v := .tuple #[.agg #[.slice A5 n5 c5, .slice R5 m5 d5], .int .i64 kk]) (by simp [results, Tryd.results91, go_sem, *]) rfl ⟨_, _, rfl, of, bf⟩
end Go.Proofs.YtfgdenmlfloloaaDoor

