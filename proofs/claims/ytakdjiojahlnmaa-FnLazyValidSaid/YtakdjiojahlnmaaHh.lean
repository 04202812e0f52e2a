/- What the model's l7Copy returns: for every heap. -/
import Derived.Test.YtakdjiojahlnmaaHd
import Derived.Test.YtakdjiojahlnmaaGa
namespace Go.Proofs.Ytakdjiojahlnmaa
open Go.RowKit

theorem upd_mono {L : Nat → Bool} {i k : Nat} (h : L k = true) : upd L i k = true := by
  unfold upd
  split
  · rfl
  · exact h
/-- what has been done, with all that it waits for -/
def Closed (ps : List (Nat × Nat)) (L : Nat → Bool) : Prop := ∀ p ∈ ps, L p.1 = true → L p.2 = true
theorem Closed.get {ps : List (Nat × Nat)} {L : Nat → Bool} {i j : Nat} (h : Closed ps L) (hp : (i, j) ∈ ps) (hi : L i = true) : L j = true := h _ hp hi
theorem Closed.step {ps : List (Nat × Nat)} {L : Nat → Bool} {i : Nat} (h : Closed ps L) (hd : ∀ p ∈ ps, p.1 = i → L p.2 = true) : Closed ps (upd L i) := by
  intro p hp hi
  by_cases e : p.1 = i
  · exact upd_mono (hd p hp e)
  · exact upd_mono (h p hp (upd_ne hi e))
theorem upd_all {L : Nat → Bool} {i n m : Nat} (h : L n = true → ∀ k, k < m → L k = true) (hne : n ≠ i) : upd L i n = true → ∀ k, k < m → upd L i k = true :=
  fun hn k hk => upd_mono (h (upd_ne hn hne) k hk)
theorem below_any {a w : World} (h : Below a.heap.size a w) (row : Option Nat) : a.grownBy w row := ⟨h.os, h.tape, h.output, h.size, fun i hi _ => h.block i hi⟩
theorem row_below {w w' : World} {base B n : Nat} {e : TypeId} {s : Nat} {v : Value} {xs : List Value} (h : w.ownsRow base e s v n xs) (hb : Below B w w') (hB : w.heap.size ≤ B) : w'.ownsRow base e s v n xs := by
  refine ⟨h.1, ?_⟩
  rcases h.2 with h0 | ⟨g, cap, cur, e, hb', hh, hr⟩
  · exact .inl h0
  · exact .inr ⟨g, cap, cur, e, hb', (hb.block g (Nat.lt_of_lt_of_le (Array.getElem?_eq_some_iff.1 hh).1 hB)).trans hh, hr⟩
theorem sep_new {v v' rv : Value} {N M : Nat} (hs : v'.ownBlock = v.ownBlock ∨ v'.ownBlock = some M) (e : v'.ownBlock = rv.ownBlock) (hr : ∀ k, rv.ownBlock = some k → N ≤ k ∧ k < M) (hv : ∀ k, v.ownBlock = some k → k < N) : rv.ownBlock = none := by
  cases h : rv.ownBlock with
  | none => rfl
  | some k =>
    exfalso
    have h1 := hr k h
    rw [h] at e
    rcases hs with hs | hs
    · have := hv k (hs.symm.trans e)
      omega
    · have : k = M := by rw [hs] at e; injection e with e; exact e.symm
      omega

/-- an append of numbers onto the call's own numbers -/
theorem app_stepI {w : World} {o : Oper} {a : Act} {K : Act → World → Prop} {Q : Exit → Act → World → Prop} (_hgd : o.guard = none) (s x : Operand)
    (ho : o.op = .call { callee := .builtin .append, args := #[s, x], argTypes := #[24, 24] })
    (base : Nat) (v : Value) (xs : List Int) (hs : a.eval s = v) (hown : OwnI w base v xs) (A : Option Addr) (m c B : Nat) (ys : List Int) (hx : a.eval x = .slice A m c) (hr : IS w B A m ys)
    (hn : xs.length + m ≤ 1099511627776) (hbase : base ≤ w.heap.size)
    (h : ∀ v' w', OwnI w' base v' (xs ++ ys) → w.grownBy w' v.ownBlock → (v'.ownBlock = v.ownBlock ∨ v'.ownBlock = some w.heap.size) → K (a.put o.dst v') w') : Oper.wp Try.prog o a w K Q := by
  obtain ⟨v', w', hrun, h2, h3, h4⟩ := run_appendI w base v xs hown A m c B ys hr hn hbase o.type
  unfold Oper.wp execOp
  simp only [ho, resolve, invoke, builtin, Sem.run_bind, Sem.run_pure, Result.andThen_ok, List.map_toArray, List.map_cons, List.map_nil, hs, hx, hrun]
  exact h v' w' h2 h3 h4

theorem info_cell : (Try.prog.info? 45).map (fun i => (i.zero, i.size, i.bytes)) = some (some (.agg #[.bool false, .int .i64 0, .slice none 0 0]), 3, 40) := by kernel_rfl
/-- an append of one cell onto the call's own cells -/
theorem app_stepC {w : World} {o : Oper} {a : Act} {K : Act → World → Prop} {Q : Exit → Act → World → Prop} (_hgd : o.guard = none) (s x : Operand)
    (ho : o.op = .call { callee := .builtin .append, args := #[s, x], argTypes := #[23, 23] })
    (base : Nat) (v : Value) (n : Nat) (vs : List Value) (hs : a.eval s = v) (hown : w.ownsRow base 45 3 v n vs) (gs : Nat) (u : Bool) (d : Int) (A8 : Option Addr) (m8 c8 : Nat) (hx : a.eval x = .slice (some ⟨gs, 0, none⟩) 1 1)
    (hr : Rw w gs 45 #[.bool u, .int .i64 d, .slice A8 m8 c8]) (hn : n + 1 ≤ 1099511627776) (hbase : base ≤ w.heap.size)
    (h : ∀ v' w' A9 c9, v' = .slice A9 (n + 1) c9 → w'.ownsRow base 45 3 v' (n + 1) (vs ++ [.bool u, .int .i64 d, .slice A8 m8 c8]) → w.grownBy w' v.ownBlock → (v'.ownBlock = v.ownBlock ∨ v'.ownBlock = some w.heap.size) → K (a.put o.dst v') w') : Oper.wp Try.prog o a w K Q := by
  obtain ⟨i0, hi0, hz0, hz1, hz2⟩ := info_parts info_cell
  obtain ⟨v', w', hrun, h2, h3, _, h5⟩ := run_append_own_at (P := Try.prog) w base 23 o.type 45 i0 _ 3 40 Try.underlying23 hi0 hz0 hz1 hz2 rfl (by omega) v n vs hown ⟨gs, 0, none⟩ 1 1 [.bool u, .int .i64 d, .slice A8 m8 c8]
      (by simp) (fun j y hj => by
        rw [add_lit, Nat.zero_add, hr.cell j]
        match j, hj with
        | 0, hj => simpa using hj
        | 1, hj => simpa using hj
        | 2, hj => simpa using hj
        | j + 3, hj => simp at hj) (by intro y hy; simp at hy; rcases hy with rfl | rfl | rfl <;> rfl) (by unfold maxLen; omega) (by omega) hbase
  unfold Oper.wp execOp
  simp only [ho, resolve, invoke, builtin, Sem.run_bind, Sem.run_pure, Result.andThen_ok, List.map_toArray, List.map_cons, List.map_nil, hs, hx, hrun]
  rcases h2.2 with ⟨e, h0⟩ | ⟨g, cap, cur, e, _⟩
  · omega
  · exact h v' w' (some ⟨g, 0, none⟩) cap e h2 h3 h5

/-- while a heap is copied: what is copied so far, in the box b, and the other boxes -/
structure CpSt (w wr : World) (b : Nat) (hb rb : Array Value) (vc vr : Value) (rvs : List Value) (h : Hp) : Prop where
  own : OwnHx wr (w.heap.size + 2) vc vr rvs h
  apart : Apart (some b) (vc :: vr :: rvs)
  box : Rw wr b 26 #[vc, vr]
  arg : Rw wr w.heap.size 26 hb
  res : Rw wr (w.heap.size + 1) 26 rb
  bel : Below w.heap.size w wr
  lo : w.heap.size + 2 ≤ b

theorem CpSt.next {w wr w1 : World} {b k n m' c9 c8 : Nat} {hb rb : Array Value} {vc vr : Value} {rvs : List Value} {h : Hp} {cl : Cl} {A9 A8 : Option Addr} (S : CpSt w wr b hb rb vc vr rvs ⟨h.cs.take k, h.rt⟩) (hlc : h.cs.length = n) (hlt : k < n) (hcl : h.cs[k]? = some cl)
    (hG : wr.grownBy w1 vc.ownBlock) (o9 : w1.ownsRow (w.heap.size + 2) 45 3 (.slice A9 (k + 1) c9) (k + 1) (flatC (h.cs.take k) rvs ++ [.bool cl.u, .int .i64 cl.d, .slice A8 m' c8]))
    (hsep : (Value.slice A9 (k + 1) c9).ownBlock = (Value.slice A8 m' c8).ownBlock → (Value.slice A8 m' c8).ownBlock = none)
    (q : (Value.slice A9 (k + 1) c9).ownBlock = vc.ownBlock ∨ ∃ b', (Value.slice A9 (k + 1) c9).ownBlock = some b' ∧ wr.heap.size ≤ b')
    (o8 : OwnI (w1.setCell ⟨b, 0, none⟩ (.slice A9 (k + 1) c9)) wr.heap.size (.slice A8 m' c8) cl.r) :
    CpSt w (w1.setCell ⟨b, 0, none⟩ (.slice A9 (k + 1) c9)) b hb rb (.slice A9 (k + 1) c9) vr (rvs ++ [.slice A8 m' c8]) ⟨h.cs.take (k + 1), h.rt⟩ := by
  obtain ⟨v9, hv9⟩ : ∃ v9, Value.slice A9 (k + 1) c9 = v9 := ⟨_, rfl⟩
  obtain ⟨v8, hv8⟩ : ∃ v8, Value.slice A8 m' c8 = v8 := ⟨_, rfl⟩
  rw [hv9] at o9 hsep q o8 ⊢
  rw [hv8] at o9 hsep o8 ⊢
  have hbl := S.box.lt
  have hlo := S.lo
  have hsp := S.own.sep
  unfold Sep at hsp
  simp only [List.pairwise_cons, List.mem_cons] at hsp
  obtain ⟨sp1, sp2, sp3⟩ := hsp
  have hvc : ∀ kk, vc.ownBlock = some kk → w.heap.size + 2 ≤ kk ∧ kk < wr.heap.size := fun kk hk => S.own.blocks (by simp) hk
  have hvr : ∀ kk, vr.ownBlock = some kk → kk < wr.heap.size := fun kk hk => (S.own.blocks (by simp) hk).2
  have hrv : ∀ v ∈ rvs, ∀ kk, v.ownBlock = some kk → kk < wr.heap.size := fun v hv kk hk => (S.own.blocks (by simp [hv]) hk).2
  have h8 : ∀ kk, v8.ownBlock = some kk → wr.heap.size ≤ kk := fun kk hk => (World.ownsRow.lt o8 kk hk).1
  have hvcb : vc.ownBlock ≠ some b := by
    rcases S.apart vc (by simp) with e | e
    · rw [e]; simp
    · exact e
  have swap : ∀ v : Value, (vc.ownBlock = none ∨ vc.ownBlock ≠ v.ownBlock) → v.ownBlock = none ∨ v.ownBlock ≠ vc.ownBlock := fun v hv => by
    rcases hv with e | e
    · cases e' : v.ownBlock with
      | none => exact .inl rfl
      | some kk => right; rw [e]; simp
    · exact .inr fun e' => e e'.symm
  have h9b : v9.ownBlock = none ∨ v9.ownBlock ≠ some b := by
    right
    rcases q with e | ⟨b', e, hb'⟩
    · rw [e]; exact hvcb
    · rw [e]; intro e'; injection e' with e'; omega
  have h9old : ∀ v : Value, (vc.ownBlock = none ∨ vc.ownBlock ≠ v.ownBlock) → (∀ kk, v.ownBlock = some kk → kk < wr.heap.size) → v9.ownBlock = none ∨ v9.ownBlock ≠ v.ownBlock := fun v hv hlt' => by
    rcases q with e | ⟨b', e, hb'⟩
    · rw [e]; exact hv
    · right
      rw [e]
      intro e'
      have := hlt' b' e'.symm
      omega
  have hput : ∀ W : World, W.grownBy (W.setCell ⟨b, 0, none⟩ v9) (some b) := fun W => only_put (World.grownBy.refl _ _) 0 v9
  have htk : (h.cs.take (k + 1)).length = k + 1 := by rw [List.length_take]; omega
  have htk0 : (h.cs.take k).length = k := by rw [List.length_take]; omega
  have hrl : rvs.length = k := by have := S.own.len; simp only [htk0] at this; exact this
  have htake : h.cs.take (k + 1) = h.cs.take k ++ [cl] := by rw [List.take_add_one, hcl]; rfl
  refine ⟨⟨by simp only [htk, List.length_append, List.length_singleton, hrl], ?_, ?_, ?_, ?_⟩, ?_, ?_, ?_, ?_, ?_, hlo⟩
  · simp only [htk]
    have e : flatC (h.cs.take (k + 1)) (rvs ++ [v8]) = flatC (h.cs.take k) rvs ++ [.bool cl.u, .int .i64 cl.d, v8] := by
      rw [htake, flatC_append _ _ _ _ (by rw [hrl, htk0])]
      simp [flatC]
    rw [e]
    exact World.ownsRow.kept o9 (hput w1) h9b
  · intro j c' v hc' hv
    simp only [htake] at hc'
    rcases Nat.lt_or_ge j k with hj | hj
    · rw [List.getElem?_append_left (by omega)] at hc' hv
      have hmem := List.mem_of_getElem? hv
      exact ((S.own.refs j c' v hc' hv).far hG (swap v (sp1 v (.inr hmem)))).far (hput w1) (S.apart v (by simp [hmem]))
    · rw [List.getElem?_append_right (by omega), htk0] at hc'
      rw [List.getElem?_append_right (by omega), hrl] at hv
      have hjk : j - k = 0 := by
        rcases Nat.eq_zero_or_pos (j - k) with e | e
        · exact e
        · rw [List.getElem?_eq_none (by simp; omega)] at hv; cases hv
      rw [hjk] at hc' hv
      simp at hc' hv
      subst hc' hv
      exact o8.base (by omega)
  · exact (S.own.roots.far hG (swap vr (sp1 vr (.inl rfl)))).far (hput w1) (S.apart vr (by simp))
  · unfold Sep
    simp only [List.pairwise_cons, List.mem_cons, List.mem_append, List.pairwise_append, List.not_mem_nil]
    refine ⟨fun v hv => ?_, fun v hv => ?_, sp3, ⟨by simp, List.Pairwise.nil⟩, fun a ha v hv => ?_⟩
    · rcases hv with rfl | hv | hv | hv
      · exact h9old v (sp1 v (.inl rfl)) hvr
      · exact h9old v (sp1 v (.inr hv)) (hrv v hv)
      · subst hv
        cases e : v9.ownBlock with
        | none => exact .inl rfl
        | some kk =>
          right
          intro e'
          have := hsep (e.trans e')
          rw [this] at e'
          cases e'
      · cases hv
    · rcases hv with hv | hv | hv
      · exact sp2 v hv
      · subst hv
        cases e : vr.ownBlock with
        | none => exact .inl rfl
        | some kk => right; intro e'; have := hvr kk e; have := h8 kk e'.symm; omega
      · cases hv
    · rcases hv with hv | hv
      · subst hv
        cases e : a.ownBlock with
        | none => exact .inl rfl
        | some kk => right; intro e'; have := hrv a ha kk e; have := h8 kk e'.symm; omega
      · cases hv
  · intro v hv
    simp only [List.mem_cons, List.mem_append, List.not_mem_nil, or_false] at hv
    rcases hv with rfl | rfl | hv | rfl
    · exact h9b
    · exact S.apart v (by simp)
    · exact S.apart v (by simp [hv])
    · cases e : v.ownBlock with
      | none => exact .inl rfl
      | some kk => right; intro e'; injection e' with e'; have := h8 kk e; omega
  · exact (Rw.far S.box hG (fun e => hvcb e.symm)).put 0 v9
  · exact Rw.other (Rw.far S.arg hG (fun e => by have := hvc _ e.symm; omega)) (by omega) _
  · exact Rw.other (Rw.far S.res hG (fun e => by have := hvc _ e.symm; omega)) (by omega) _
  · exact (S.bel.grown hG S.bel.size (fun kk hk => by have := hvc kk hk; omega)).setCell (p := ⟨b, 0, none⟩) (by simp; omega) _

set_option maxRecDepth 100000 in
set_option maxHeartbeats 8000000 in
theorem l7Copy_any (A R : Option Addr) (n c m d : Nat) (h : Hp) (w : World) (hs : HS w w.heap.size A n R m h) (hn : n ≤ 1000000) (hm : m ≤ 1000000) (hb : ∀ cl ∈ h.cs, cl.r.length ≤ 1000000) :
    Calls Try.prog 43 #[heapV A n c R m d] w (GaveH w h) := by
  have hlc := hs.cells.1
  have hlr := hs.roots.1
  have HB := Lib.hid hb
  clear hb
  have o0 := own_noneI ((w.alloc (.cells #[.slice A n c, .slice R m d] 26)).alloc (.cells #[.slice none 0 0, .slice none 0 0] 26)) (w.heap.size + 2) (by simp)
  have b0 : Below w.heap.size w (((w.alloc (.cells #[.slice A n c, .slice R m d] 26)).alloc (.cells #[.slice none 0 0, .slice none 0 0] 26)).alloc (.cells #[] 3)) := (((Below.refl w.heap.size w).alloc (Nat.le_refl _) _).alloc (by simp) _).alloc (by simp; omega) _
  have r0 := hs.roots.below b0
  have a0 := ((Rw.new w 26 #[.slice A n c, .slice R m d]).alloc (.cells #[.slice none 0 0, .slice none 0 0] 26)).alloc (.cells #[] 3)
  have a1 := (Rw.new (w.alloc (.cells #[.slice A n c, .slice R m d] 26)) 26 #[.slice none 0 0, .slice none 0 0]).alloc (.cells #[] 3)
  simp only [World.size_alloc] at o0 a1
  go_enter Try.func43, Try.ntmps43
  go_wp2_with (at_builtin; refine wpList_appendI rfl (.tmp 5) (.tmp 7) rfl (w.heap.size + 2) _ [] rfl o0 R m d w.heap.size h.rt rfl r0 (by simp <;> omega) (by simp) ?_; intro v5 w5 o5 g5 s5; rw [List.nil_append] at o5; obtain ⟨A5, c5, e5, f5⟩ := o5.form; rw [hlr] at e5; subst e5)
  have hrow5 : ∀ kk, (Value.slice (some ⟨w.heap.size + 1 + 1, 0, none⟩) 0 0).ownBlock = some kk → w.heap.size + 2 ≤ kk := fun kk hk => (World.ownsRow.lt o0 kk hk).1
  have st : CpSt w (w5.alloc (.cells #[.slice none 0 0, .slice A5 m c5] 26)) w5.heap.size #[.slice A n c, .slice R m d] #[.slice none 0 0, .slice none 0 0] (.slice none 0 0) (.slice A5 m c5) [] ⟨[], h.rt⟩ := by
    have hsz := g5.size
    simp at hsz
    refine ⟨⟨rfl, World.ownsRow_nil _ _ _ _, fun k c v hc => by simp at hc, World.ownsRow.alloc o5 _, by simp [Sep, Value.ownBlock]⟩, ?_, Rw.new _ _ _, (Rw.far a0 g5 (fun e => by have := hrow5 _ e.symm; omega)).alloc _, (Rw.far a1 g5 (fun e => by have := hrow5 _ e.symm; omega)).alloc _, ?_, by omega⟩
    · intro v hv
      simp at hv
      rcases hv with rfl | rfl
      · exact .inl rfl
      · cases e : (Value.slice A5 m c5).ownBlock with
        | none => exact .inl rfl
        | some kk =>
          right
          have := (World.ownsRow.lt o5 kk e).2
          intro e'
          injection e' with e'
          omega
    · exact (b0.grown g5 (by simp; omega) (fun kk hk => by have := hrow5 kk hk; omega)).alloc (by omega) _
  clear o0 b0 r0 a0 a1 o5 g5 s5 f5 hrow5
  go_loopw [4] (fun i wr => ∃ (k : Nat) (Av : Option Addr) (cv : Nat) (rvs : List Value), k ≤ n ∧ i = .int .i64 k ∧ CpSt w wr w5.heap.size #[.slice A n c, .slice R m d] #[.slice none 0 0, .slice none 0 0] (.slice Av k cv) (.slice A5 m c5) rvs ⟨h.cs.take k, h.rt⟩) (fun i _ => n - (intOf i).toNat)
  case atStart => exact ⟨0, none, 0, [], Nat.zero_le _, rfl, st⟩
  case round =>
    clear st
    obtain ⟨k, Av, cv, rvs, hk, rfl, S⟩ := hrel
    have z0 : wr.cell? ⟨w.heap.size, 0, none⟩ = some (.slice A n c) := S.arg.cell 0
    by_cases hlt : k < n
    · obtain ⟨g, o, cl, A', m', cc, e1, hg, hcl, d1, d2, d3, hmc, hi⟩ := hs.cells.at_ hlt
      subst e1
      have hlt' : (k : Int) < n := by omega
      have hl3 := hi.1
      have hm3 : m' ≤ 1000000 := by have := HB.out cl (List.mem_of_getElem? hcl); omega
      have HCL := Lib.hid hcl
      have htk : (h.cs.take k).length = k := by rw [List.length_take]; omega
      have hrow := S.own.row
      simp only [htk] at hrow
      have HROW := Lib.hid hrow
      have hbase : w.heap.size + 2 ≤ wr.heap.size := by have := S.lo; have := S.box.lt; omega
      have hvb : ∀ kk, (Value.slice Av k cv).ownBlock = some kk → w.heap.size + 2 ≤ kk ∧ kk < wr.heap.size := fun kk hk => World.ownsRow.lt hrow kk hk
      have hvx : (Value.slice Av k cv).ownBlock ≠ some w5.heap.size := by
        rcases S.apart (Value.slice Av k cv) (by simp) with e | e
        · rw [e]; simp
        · exact e
      have HI := Lib.hid ((hi.below S.bel).more S.bel.size)
      have HC := Lib.hid (fun ww (hG : wr.grownBy ww (Value.slice Av k cv).ownBlock) => (show ww.cell? ⟨w5.heap.size, 0, none⟩ = some (.slice Av k cv) ∧ ww.cell? ⟨w.heap.size, 0, none⟩ = some (.slice (some ⟨g, o, none⟩) n c) ∧ ww.cell? ⟨g, o + k * 3, none⟩ = some (.bool cl.u) ∧ ww.cell? ⟨g, o + k * 3 + 1, none⟩ = some (.int .i64 cl.d) ∧ ww.cell? ⟨g, o + k * 3 + 2, none⟩ = some (.slice A' m' cc) from by
        have hgl : g < wr.heap.size := Nat.lt_of_lt_of_le hg S.bel.size
        have hgn : some g ≠ (Value.slice Av k cv).ownBlock := fun e => by have := hvb g e.symm; omega
        have t := fun i => (World.cell?_of_block (hG.block g hgl hgn) : ww.cell? ⟨g, i, none⟩ = wr.cell? ⟨g, i, none⟩)
        refine ⟨(Rw.far S.box hG (fun e => hvx e.symm)).cell 0, (Rw.far S.arg hG (fun e => by have := hvb _ e.symm; omega)).cell 0, ?_, ?_, ?_⟩
        · exact (t _).trans ((S.bel.cell (p := ⟨g, o + k * 3, none⟩) hg).trans d1)
        · exact (t _).trans ((S.bel.cell (p := ⟨g, o + k * 3 + 1, none⟩) hg).trans d2)
        · exact (t _).trans ((S.bel.cell (p := ⟨g, o + k * 3 + 2, none⟩) hg).trans d3)))
      have HFZ := Lib.hid (fun ww (hG : wr.grownBy ww (Value.slice Av k cv).ownBlock) => (Rw.far S.box hG (fun e => hvx e.symm)).frozen 0)
      have APART := Lib.hid (fun (v : Value) (hv : ∀ kk, v.ownBlock = some kk → wr.heap.size ≤ kk) => (show v.ownBlock = none ∨ v.ownBlock ≠ (Value.slice Av k cv).ownBlock from by
        cases e : v.ownBlock with
        | none => exact .inl rfl
        | some kk => right; intro e'; have := hv kk e; have := hvb kk e'.symm; omega))
      have APB := Lib.hid (fun (v : Value) (hv : ∀ kk, v.ownBlock = some kk → wr.heap.size ≤ kk) => (show v.ownBlock = none ∨ v.ownBlock ≠ some w5.heap.size from by
        cases e : v.ownBlock with
        | none => exact .inl rfl
        | some kk => right; intro e'; injection e' with e'; have := hv kk e; have := S.box.lt; omega))
      have HS := Lib.hid S
      clear hcl hi d1 d2 d3 hvb hvx hrow S
      go_wp2_with fail
      clear z0
      refine wp_region_inv (by kernel_rfl) (by kernel_rfl) (fun L ac ww => ∃ t17 t18 t19 t20 t21 t22 t23 t24 t25 t26 t27 t28 t29 t30 t31 t32 t33 t34 t35 t36 t37 t38 t39 t40 t41 t42 : Value, ac = { tmps := #[(heapV (some ⟨g, o, none⟩) n c R m d), (.pointer (some ⟨w.heap.size, 0, none⟩)), (.pointer (some ⟨w.heap.size + 1, 0, none⟩)), (.pointer (some ⟨w5.heap.size, 0, none⟩)), (.int .i64 k), (.slice (some ⟨w.heap.size + 1 + 1, 0, none⟩) 0 0), (.pointer (some ⟨w.heap.size, 1, none⟩)), (.slice R m d), (.slice A5 m c5), (.agg #[.slice none 0 0, .slice A5 m c5]), (.int .i64 k), (.pointer (some ⟨w.heap.size, 0, none⟩)), (.slice (some ⟨g, o, none⟩) n c), (.int .i64 n), (.bool true), u15, u16, t17, t18, t19, t20, t21, t22, t23, t24, t25, t26, t27, t28, t29, t30, t31, t32, t33, t34, t35, t36, t37, t38, t39, t40, t41, t42, undef], defers := [] } ∧ (L 26 = true → ∀ i, i < 26 → L i = true) ∧ (L 26 = false → wr.grownBy ww (Value.slice Av k cv).ownBlock) ∧ (L 24 = false → Below wr.heap.size wr ww) ∧ (L 21 = true → L 14 = true) ∧ (L 23 = true → L 21 = true) ∧ (L 24 = true → L 23 = true) ∧ (L 22 = true → L 21 = true) ∧ (L 0 = true → t17 = (.pointer (some ⟨w5.heap.size, 0, none⟩))) ∧ (L 1 = true → t18 = (.slice Av k cv)) ∧ (L 2 = true → t19 = (.pointer (some ⟨w.heap.size, 0, none⟩))) ∧ (L 3 = true → t20 = (.slice (some ⟨g, o, none⟩) n c)) ∧ (L 4 = true → t21 = (.int .i64 k)) ∧ (L 5 = true → t22 = (.pointer (some ⟨g, o + k * 3, none⟩))) ∧ (L 6 = true → t23 = (.pointer (some ⟨g, o + k * 3, none⟩))) ∧ (L 7 = true → t24 = (.bool cl.u)) ∧ (L 8 = true → t25 = (.pointer (some ⟨w.heap.size, 0, none⟩))) ∧ (L 9 = true → t26 = (.slice (some ⟨g, o, none⟩) n c)) ∧ (L 10 = true → t27 = (.int .i64 k)) ∧ (L 11 = true → t28 = (.pointer (some ⟨g, o + k * 3, none⟩))) ∧ (L 12 = true → t29 = (.pointer (some ⟨g, o + k * 3 + 1, none⟩))) ∧ (L 13 = true → t30 = (.int .i64 cl.d)) ∧ (L 14 = true → ∃ gs, t31 = .slice (some ⟨gs, 0, none⟩) 0 0 ∧ (L 21 = false → OwnI ww wr.heap.size t31 [])) ∧ (L 15 = true → t32 = (.pointer (some ⟨w.heap.size, 0, none⟩))) ∧ (L 16 = true → t33 = (.slice (some ⟨g, o, none⟩) n c)) ∧ (L 17 = true → t34 = (.int .i64 k)) ∧ (L 18 = true → t35 = (.pointer (some ⟨g, o + k * 3, none⟩))) ∧ (L 19 = true → t36 = (.pointer (some ⟨g, o + k * 3 + 2, none⟩))) ∧ (L 20 = true → t37 = (.slice A' m' cc)) ∧ (L 21 = true → ∃ A8 c8, t38 = .slice A8 m' c8 ∧ OwnI ww wr.heap.size t38 cl.r) ∧ (L 22 = true → t39 = .agg #[.bool cl.u, .int .i64 cl.d, t38]) ∧ (L 23 = true → ∃ gs, t40 = .slice (some ⟨gs, 0, none⟩) 1 1 ∧ (L 24 = false → Rw ww gs 45 #[.bool cl.u, .int .i64 cl.d, t38])) ∧ (L 24 = true → ∃ A9 c9, t41 = .slice A9 (k + 1) c9 ∧ (t41.ownBlock = (Value.slice Av k cv).ownBlock ∨ ∃ b', t41.ownBlock = some b' ∧ wr.heap.size ≤ b') ∧ (L 26 = false → ww.ownsRow (w.heap.size + 2) 45 3 t41 (k + 1) (flatC (h.cs.take k) rvs ++ [.bool cl.u, .int .i64 cl.d, t38]) ∧ (t41.ownBlock = t38.ownBlock → t38.ownBlock = none))) ∧ (L 25 = true → t42 = (.pointer (some ⟨w5.heap.size, 0, none⟩))) ∧ (L 26 = true → ∃ w1, ww = w1.setCell ⟨w5.heap.size, 0, none⟩ t41 ∧ wr.grownBy w1 (Value.slice Av k cv).ownBlock ∧ w1.ownsRow (w.heap.size + 2) 45 3 t41 (k + 1) (flatC (h.cs.take k) rvs ++ [.bool cl.u, .int .i64 cl.d, t38]) ∧ (t41.ownBlock = t38.ownBlock → t38.ownBlock = none))) ?h0 ?hstep ?hdone
      case h0 => exact ⟨_, _, _, _, _, _, _, _, _, _, _, _, _, _, _, _, _, _, _, _, _, _, _, _, _, _, rfl, (fun h => absurd h Bool.false_ne_true), fun _ => below_any ((Below.refl _ _).drew) _, fun _ => (Below.refl _ _).drew, (fun h => absurd h Bool.false_ne_true), (fun h => absurd h Bool.false_ne_true), (fun h => absurd h Bool.false_ne_true), (fun h => absurd h Bool.false_ne_true), (fun h => absurd h Bool.false_ne_true), (fun h => absurd h Bool.false_ne_true), (fun h => absurd h Bool.false_ne_true), (fun h => absurd h Bool.false_ne_true), (fun h => absurd h Bool.false_ne_true), (fun h => absurd h Bool.false_ne_true), (fun h => absurd h Bool.false_ne_true), (fun h => absurd h Bool.false_ne_true), (fun h => absurd h Bool.false_ne_true), (fun h => absurd h Bool.false_ne_true), (fun h => absurd h Bool.false_ne_true), (fun h => absurd h Bool.false_ne_true), (fun h => absurd h Bool.false_ne_true), (fun h => absurd h Bool.false_ne_true), (fun h => absurd h Bool.false_ne_true), (fun h => absurd h Bool.false_ne_true), (fun h => absurd h Bool.false_ne_true), (fun h => absurd h Bool.false_ne_true), (fun h => absurd h Bool.false_ne_true), (fun h => absurd h Bool.false_ne_true), (fun h => absurd h Bool.false_ne_true), (fun h => absurd h Bool.false_ne_true), (fun h => absurd h Bool.false_ne_true), (fun h => absurd h Bool.false_ne_true), (fun h => absurd h Bool.false_ne_true), (fun h => absurd h Bool.false_ne_true), (fun h => absurd h Bool.false_ne_true)⟩
      case hstep =>
        rintro L ac ww i o ho hL hd ⟨t17, t18, t19, t20, t21, t22, t23, t24, t25, t26, t27, t28, t29, t30, t31, t32, t33, t34, t35, t36, t37, t38, t39, t40, t41, t42, rfl, I0, I1, I2, I3, I4, I5, I6, f0, f1, f2, f3, f4, f5, f6, f7, f8, f9, f10, f11, f12, f13, f14, f15, f16, f17, f18, f19, f20, f21, f22, f23, f24, f25, f26⟩
        have hi : i < 27 := (Array.getElem?_eq_some_iff.1 ho).1
        obtain rfl | rfl | rfl | rfl | rfl | rfl | rfl | rfl | rfl | rfl | rfl | rfl | rfl | rfl | rfl | rfl | rfl | rfl | rfl | rfl | rfl | rfl | rfl | rfl | rfl | rfl | rfl : i = 0 ∨ i = 1 ∨ i = 2 ∨ i = 3 ∨ i = 4 ∨ i = 5 ∨ i = 6 ∨ i = 7 ∨ i = 8 ∨ i = 9 ∨ i = 10 ∨ i = 11 ∨ i = 12 ∨ i = 13 ∨ i = 14 ∨ i = 15 ∨ i = 16 ∨ i = 17 ∨ i = 18 ∨ i = 19 ∨ i = 20 ∨ i = 21 ∨ i = 22 ∨ i = 23 ∨ i = 24 ∨ i = 25 ∨ i = 26 := by omega
        · obtain rfl := Option.some.inj ho
          have h26 : L 26 = false := by
            cases hh : L 26
            · rfl
            · exact absurd ((I0 hh 0 (by omega)).symm.trans hL) (by decide)
          refine wpOp_step rfl (fun K' hK => ?_)
          go_simp
          refine hK _ _ ?_
          exact ⟨_, _, _, _, _, _, _, _, _, _, _, _, _, _, _, _, _, _, _, _, _, _, _, _, _, _, rfl, (upd_all I0 (by decide)), (fun h => I1 (by rw [upd_other (by decide)] at h; exact h)), (fun h => I2 (by rw [upd_other (by decide)] at h; exact h)), (fun h => upd_mono (I3 (upd_ne h (by decide)))), (fun h => upd_mono (I4 (upd_ne h (by decide)))), (fun h => upd_mono (I5 (upd_ne h (by decide)))), (fun h => upd_mono (I6 (upd_ne h (by decide)))), (fun _ => by first | rfl | simp), (kp f1), (kp f2), (kp f3), (kp f4), (kp f5), (kp f6), (kp f7), (kp f8), (kp f9), (kp f10), (kp f11), (kp f12), (kp f13), (fun h => by
              obtain ⟨gs, e1, e2⟩ := f14 (upd_ne h (by decide))
              exact ⟨gs, e1, fun h21 => e2 (by rw [upd_other (by decide)] at h21; exact h21)⟩), (kp f15), (kp f16), (kp f17), (kp f18), (kp f19), (kp f20), (kp f21), (kp f22), (fun h => by
              obtain ⟨gs, e1, e2⟩ := f23 (upd_ne h (by decide))
              exact ⟨gs, e1, fun h24 => e2 (by rw [upd_other (by decide)] at h24; exact h24)⟩), (fun h => by
              obtain ⟨A9, c9, e1, e2, e3⟩ := f24 (upd_ne h (by decide))
              exact ⟨A9, c9, e1, e2, fun h26 => e3 (by rw [upd_other (by decide)] at h26; exact h26)⟩), (kp f25), (kp f26)⟩
        · obtain rfl := Option.some.inj ho
          have g0 := f0 (hd ⟨0, .data⟩ (by simp) rfl)
          subst g0
          have h26 : L 26 = false := by
            cases hh : L 26
            · rfl
            · exact absurd ((I0 hh 1 (by omega)).symm.trans hL) (by decide)
          obtain ⟨k0, k1, k2, k3, k4⟩ := HC.out ww (I1 h26)
          refine wpOp_step rfl (fun K' hK => ?_)
          go_simp
          refine hK _ _ ?_
          exact ⟨_, _, _, _, _, _, _, _, _, _, _, _, _, _, _, _, _, _, _, _, _, _, _, _, _, _, rfl, (upd_all I0 (by decide)), (fun h => I1 (by rw [upd_other (by decide)] at h; exact h)), (fun h => I2 (by rw [upd_other (by decide)] at h; exact h)), (fun h => upd_mono (I3 (upd_ne h (by decide)))), (fun h => upd_mono (I4 (upd_ne h (by decide)))), (fun h => upd_mono (I5 (upd_ne h (by decide)))), (fun h => upd_mono (I6 (upd_ne h (by decide)))), (kp f0), (fun _ => rfl), (kp f2), (kp f3), (kp f4), (kp f5), (kp f6), (kp f7), (kp f8), (kp f9), (kp f10), (kp f11), (kp f12), (kp f13), (fun h => by
              obtain ⟨gs, e1, e2⟩ := f14 (upd_ne h (by decide))
              exact ⟨gs, e1, fun h21 => e2 (by rw [upd_other (by decide)] at h21; exact h21)⟩), (kp f15), (kp f16), (kp f17), (kp f18), (kp f19), (kp f20), (kp f21), (kp f22), (fun h => by
              obtain ⟨gs, e1, e2⟩ := f23 (upd_ne h (by decide))
              exact ⟨gs, e1, fun h24 => e2 (by rw [upd_other (by decide)] at h24; exact h24)⟩), (fun h => by
              obtain ⟨A9, c9, e1, e2, e3⟩ := f24 (upd_ne h (by decide))
              exact ⟨A9, c9, e1, e2, fun h26 => e3 (by rw [upd_other (by decide)] at h26; exact h26)⟩), (kp f25), (kp f26)⟩
        · obtain rfl := Option.some.inj ho
          have h26 : L 26 = false := by
            cases hh : L 26
            · rfl
            · exact absurd ((I0 hh 2 (by omega)).symm.trans hL) (by decide)
          refine wpOp_step rfl (fun K' hK => ?_)
          go_simp
          refine hK _ _ ?_
          exact ⟨_, _, _, _, _, _, _, _, _, _, _, _, _, _, _, _, _, _, _, _, _, _, _, _, _, _, rfl, (upd_all I0 (by decide)), (fun h => I1 (by rw [upd_other (by decide)] at h; exact h)), (fun h => I2 (by rw [upd_other (by decide)] at h; exact h)), (fun h => upd_mono (I3 (upd_ne h (by decide)))), (fun h => upd_mono (I4 (upd_ne h (by decide)))), (fun h => upd_mono (I5 (upd_ne h (by decide)))), (fun h => upd_mono (I6 (upd_ne h (by decide)))), (kp f0), (kp f1), (fun _ => by first | rfl | simp), (kp f3), (kp f4), (kp f5), (kp f6), (kp f7), (kp f8), (kp f9), (kp f10), (kp f11), (kp f12), (kp f13), (fun h => by
              obtain ⟨gs, e1, e2⟩ := f14 (upd_ne h (by decide))
              exact ⟨gs, e1, fun h21 => e2 (by rw [upd_other (by decide)] at h21; exact h21)⟩), (kp f15), (kp f16), (kp f17), (kp f18), (kp f19), (kp f20), (kp f21), (kp f22), (fun h => by
              obtain ⟨gs, e1, e2⟩ := f23 (upd_ne h (by decide))
              exact ⟨gs, e1, fun h24 => e2 (by rw [upd_other (by decide)] at h24; exact h24)⟩), (fun h => by
              obtain ⟨A9, c9, e1, e2, e3⟩ := f24 (upd_ne h (by decide))
              exact ⟨A9, c9, e1, e2, fun h26 => e3 (by rw [upd_other (by decide)] at h26; exact h26)⟩), (kp f25), (kp f26)⟩
        · obtain rfl := Option.some.inj ho
          have g2 := f2 (hd ⟨2, .data⟩ (by simp) rfl)
          subst g2
          have h26 : L 26 = false := by
            cases hh : L 26
            · rfl
            · exact absurd ((I0 hh 3 (by omega)).symm.trans hL) (by decide)
          obtain ⟨k0, k1, k2, k3, k4⟩ := HC.out ww (I1 h26)
          refine wpOp_step rfl (fun K' hK => ?_)
          go_simp
          refine hK _ _ ?_
          exact ⟨_, _, _, _, _, _, _, _, _, _, _, _, _, _, _, _, _, _, _, _, _, _, _, _, _, _, rfl, (upd_all I0 (by decide)), (fun h => I1 (by rw [upd_other (by decide)] at h; exact h)), (fun h => I2 (by rw [upd_other (by decide)] at h; exact h)), (fun h => upd_mono (I3 (upd_ne h (by decide)))), (fun h => upd_mono (I4 (upd_ne h (by decide)))), (fun h => upd_mono (I5 (upd_ne h (by decide)))), (fun h => upd_mono (I6 (upd_ne h (by decide)))), (kp f0), (kp f1), (kp f2), (fun _ => rfl), (kp f4), (kp f5), (kp f6), (kp f7), (kp f8), (kp f9), (kp f10), (kp f11), (kp f12), (kp f13), (fun h => by
              obtain ⟨gs, e1, e2⟩ := f14 (upd_ne h (by decide))
              exact ⟨gs, e1, fun h21 => e2 (by rw [upd_other (by decide)] at h21; exact h21)⟩), (kp f15), (kp f16), (kp f17), (kp f18), (kp f19), (kp f20), (kp f21), (kp f22), (fun h => by
              obtain ⟨gs, e1, e2⟩ := f23 (upd_ne h (by decide))
              exact ⟨gs, e1, fun h24 => e2 (by rw [upd_other (by decide)] at h24; exact h24)⟩), (fun h => by
              obtain ⟨A9, c9, e1, e2, e3⟩ := f24 (upd_ne h (by decide))
              exact ⟨A9, c9, e1, e2, fun h26 => e3 (by rw [upd_other (by decide)] at h26; exact h26)⟩), (kp f25), (kp f26)⟩
        · obtain rfl := Option.some.inj ho
          have h26 : L 26 = false := by
            cases hh : L 26
            · rfl
            · exact absurd ((I0 hh 4 (by omega)).symm.trans hL) (by decide)
          refine wpOp_step rfl (fun K' hK => ?_)
          go_simp
          refine hK _ _ ?_
          exact ⟨_, _, _, _, _, _, _, _, _, _, _, _, _, _, _, _, _, _, _, _, _, _, _, _, _, _, rfl, (upd_all I0 (by decide)), (fun h => I1 (by rw [upd_other (by decide)] at h; exact h)), (fun h => I2 (by rw [upd_other (by decide)] at h; exact h)), (fun h => upd_mono (I3 (upd_ne h (by decide)))), (fun h => upd_mono (I4 (upd_ne h (by decide)))), (fun h => upd_mono (I5 (upd_ne h (by decide)))), (fun h => upd_mono (I6 (upd_ne h (by decide)))), (kp f0), (kp f1), (kp f2), (kp f3), (fun _ => rfl), (kp f5), (kp f6), (kp f7), (kp f8), (kp f9), (kp f10), (kp f11), (kp f12), (kp f13), (fun h => by
              obtain ⟨gs, e1, e2⟩ := f14 (upd_ne h (by decide))
              exact ⟨gs, e1, fun h21 => e2 (by rw [upd_other (by decide)] at h21; exact h21)⟩), (kp f15), (kp f16), (kp f17), (kp f18), (kp f19), (kp f20), (kp f21), (kp f22), (fun h => by
              obtain ⟨gs, e1, e2⟩ := f23 (upd_ne h (by decide))
              exact ⟨gs, e1, fun h24 => e2 (by rw [upd_other (by decide)] at h24; exact h24)⟩), (fun h => by
              obtain ⟨A9, c9, e1, e2, e3⟩ := f24 (upd_ne h (by decide))
              exact ⟨A9, c9, e1, e2, fun h26 => e3 (by rw [upd_other (by decide)] at h26; exact h26)⟩), (kp f25), (kp f26)⟩
        · obtain rfl := Option.some.inj ho
          have g3 := f3 (hd ⟨3, .data⟩ (by simp) rfl)
          have g4 := f4 (hd ⟨4, .data⟩ (by simp) rfl)
          subst g3
          subst g4
          have h26 : L 26 = false := by
            cases hh : L 26
            · rfl
            · exact absurd ((I0 hh 5 (by omega)).symm.trans hL) (by decide)
          refine wpOp_step rfl (fun K' hK => ?_)
          go_simp
          refine hK _ _ ?_
          exact ⟨_, _, _, _, _, _, _, _, _, _, _, _, _, _, _, _, _, _, _, _, _, _, _, _, _, _, rfl, (upd_all I0 (by decide)), (fun h => I1 (by rw [upd_other (by decide)] at h; exact h)), (fun h => I2 (by rw [upd_other (by decide)] at h; exact h)), (fun h => upd_mono (I3 (upd_ne h (by decide)))), (fun h => upd_mono (I4 (upd_ne h (by decide)))), (fun h => upd_mono (I5 (upd_ne h (by decide)))), (fun h => upd_mono (I6 (upd_ne h (by decide)))), (kp f0), (kp f1), (kp f2), (kp f3), (kp f4), (fun _ => by first | rfl | simp), (kp f6), (kp f7), (kp f8), (kp f9), (kp f10), (kp f11), (kp f12), (kp f13), (fun h => by
              obtain ⟨gs, e1, e2⟩ := f14 (upd_ne h (by decide))
              exact ⟨gs, e1, fun h21 => e2 (by rw [upd_other (by decide)] at h21; exact h21)⟩), (kp f15), (kp f16), (kp f17), (kp f18), (kp f19), (kp f20), (kp f21), (kp f22), (fun h => by
              obtain ⟨gs, e1, e2⟩ := f23 (upd_ne h (by decide))
              exact ⟨gs, e1, fun h24 => e2 (by rw [upd_other (by decide)] at h24; exact h24)⟩), (fun h => by
              obtain ⟨A9, c9, e1, e2, e3⟩ := f24 (upd_ne h (by decide))
              exact ⟨A9, c9, e1, e2, fun h26 => e3 (by rw [upd_other (by decide)] at h26; exact h26)⟩), (kp f25), (kp f26)⟩
        · obtain rfl := Option.some.inj ho
          have g5 := f5 (hd ⟨5, .data⟩ (by simp) rfl)
          subst g5
          have h26 : L 26 = false := by
            cases hh : L 26
            · rfl
            · exact absurd ((I0 hh 6 (by omega)).symm.trans hL) (by decide)
          refine wpOp_step rfl (fun K' hK => ?_)
          go_simp
          refine hK _ _ ?_
          exact ⟨_, _, _, _, _, _, _, _, _, _, _, _, _, _, _, _, _, _, _, _, _, _, _, _, _, _, rfl, (upd_all I0 (by decide)), (fun h => I1 (by rw [upd_other (by decide)] at h; exact h)), (fun h => I2 (by rw [upd_other (by decide)] at h; exact h)), (fun h => upd_mono (I3 (upd_ne h (by decide)))), (fun h => upd_mono (I4 (upd_ne h (by decide)))), (fun h => upd_mono (I5 (upd_ne h (by decide)))), (fun h => upd_mono (I6 (upd_ne h (by decide)))), (kp f0), (kp f1), (kp f2), (kp f3), (kp f4), (kp f5), (fun _ => by first | rfl | simp), (kp f7), (kp f8), (kp f9), (kp f10), (kp f11), (kp f12), (kp f13), (fun h => by
              obtain ⟨gs, e1, e2⟩ := f14 (upd_ne h (by decide))
              exact ⟨gs, e1, fun h21 => e2 (by rw [upd_other (by decide)] at h21; exact h21)⟩), (kp f15), (kp f16), (kp f17), (kp f18), (kp f19), (kp f20), (kp f21), (kp f22), (fun h => by
              obtain ⟨gs, e1, e2⟩ := f23 (upd_ne h (by decide))
              exact ⟨gs, e1, fun h24 => e2 (by rw [upd_other (by decide)] at h24; exact h24)⟩), (fun h => by
              obtain ⟨A9, c9, e1, e2, e3⟩ := f24 (upd_ne h (by decide))
              exact ⟨A9, c9, e1, e2, fun h26 => e3 (by rw [upd_other (by decide)] at h26; exact h26)⟩), (kp f25), (kp f26)⟩
        · obtain rfl := Option.some.inj ho
          have g6 := f6 (hd ⟨6, .data⟩ (by simp) rfl)
          subst g6
          have h26 : L 26 = false := by
            cases hh : L 26
            · rfl
            · exact absurd ((I0 hh 7 (by omega)).symm.trans hL) (by decide)
          obtain ⟨k0, k1, k2, k3, k4⟩ := HC.out ww (I1 h26)
          refine wpOp_step rfl (fun K' hK => ?_)
          go_simp
          refine hK _ _ ?_
          exact ⟨_, _, _, _, _, _, _, _, _, _, _, _, _, _, _, _, _, _, _, _, _, _, _, _, _, _, rfl, (upd_all I0 (by decide)), (fun h => I1 (by rw [upd_other (by decide)] at h; exact h)), (fun h => I2 (by rw [upd_other (by decide)] at h; exact h)), (fun h => upd_mono (I3 (upd_ne h (by decide)))), (fun h => upd_mono (I4 (upd_ne h (by decide)))), (fun h => upd_mono (I5 (upd_ne h (by decide)))), (fun h => upd_mono (I6 (upd_ne h (by decide)))), (kp f0), (kp f1), (kp f2), (kp f3), (kp f4), (kp f5), (kp f6), (fun _ => rfl), (kp f8), (kp f9), (kp f10), (kp f11), (kp f12), (kp f13), (fun h => by
              obtain ⟨gs, e1, e2⟩ := f14 (upd_ne h (by decide))
              exact ⟨gs, e1, fun h21 => e2 (by rw [upd_other (by decide)] at h21; exact h21)⟩), (kp f15), (kp f16), (kp f17), (kp f18), (kp f19), (kp f20), (kp f21), (kp f22), (fun h => by
              obtain ⟨gs, e1, e2⟩ := f23 (upd_ne h (by decide))
              exact ⟨gs, e1, fun h24 => e2 (by rw [upd_other (by decide)] at h24; exact h24)⟩), (fun h => by
              obtain ⟨A9, c9, e1, e2, e3⟩ := f24 (upd_ne h (by decide))
              exact ⟨A9, c9, e1, e2, fun h26 => e3 (by rw [upd_other (by decide)] at h26; exact h26)⟩), (kp f25), (kp f26)⟩
        · obtain rfl := Option.some.inj ho
          have h26 : L 26 = false := by
            cases hh : L 26
            · rfl
            · exact absurd ((I0 hh 8 (by omega)).symm.trans hL) (by decide)
          refine wpOp_step rfl (fun K' hK => ?_)
          go_simp
          refine hK _ _ ?_
          exact ⟨_, _, _, _, _, _, _, _, _, _, _, _, _, _, _, _, _, _, _, _, _, _, _, _, _, _, rfl, (upd_all I0 (by decide)), (fun h => I1 (by rw [upd_other (by decide)] at h; exact h)), (fun h => I2 (by rw [upd_other (by decide)] at h; exact h)), (fun h => upd_mono (I3 (upd_ne h (by decide)))), (fun h => upd_mono (I4 (upd_ne h (by decide)))), (fun h => upd_mono (I5 (upd_ne h (by decide)))), (fun h => upd_mono (I6 (upd_ne h (by decide)))), (kp f0), (kp f1), (kp f2), (kp f3), (kp f4), (kp f5), (kp f6), (kp f7), (fun _ => by first | rfl | simp), (kp f9), (kp f10), (kp f11), (kp f12), (kp f13), (fun h => by
              obtain ⟨gs, e1, e2⟩ := f14 (upd_ne h (by decide))
              exact ⟨gs, e1, fun h21 => e2 (by rw [upd_other (by decide)] at h21; exact h21)⟩), (kp f15), (kp f16), (kp f17), (kp f18), (kp f19), (kp f20), (kp f21), (kp f22), (fun h => by
              obtain ⟨gs, e1, e2⟩ := f23 (upd_ne h (by decide))
              exact ⟨gs, e1, fun h24 => e2 (by rw [upd_other (by decide)] at h24; exact h24)⟩), (fun h => by
              obtain ⟨A9, c9, e1, e2, e3⟩ := f24 (upd_ne h (by decide))
              exact ⟨A9, c9, e1, e2, fun h26 => e3 (by rw [upd_other (by decide)] at h26; exact h26)⟩), (kp f25), (kp f26)⟩
        · obtain rfl := Option.some.inj ho
          have g8 := f8 (hd ⟨8, .data⟩ (by simp) rfl)
          subst g8
          have h26 : L 26 = false := by
            cases hh : L 26
            · rfl
            · exact absurd ((I0 hh 9 (by omega)).symm.trans hL) (by decide)
          obtain ⟨k0, k1, k2, k3, k4⟩ := HC.out ww (I1 h26)
          refine wpOp_step rfl (fun K' hK => ?_)
          go_simp
          refine hK _ _ ?_
          exact ⟨_, _, _, _, _, _, _, _, _, _, _, _, _, _, _, _, _, _, _, _, _, _, _, _, _, _, rfl, (upd_all I0 (by decide)), (fun h => I1 (by rw [upd_other (by decide)] at h; exact h)), (fun h => I2 (by rw [upd_other (by decide)] at h; exact h)), (fun h => upd_mono (I3 (upd_ne h (by decide)))), (fun h => upd_mono (I4 (upd_ne h (by decide)))), (fun h => upd_mono (I5 (upd_ne h (by decide)))), (fun h => upd_mono (I6 (upd_ne h (by decide)))), (kp f0), (kp f1), (kp f2), (kp f3), (kp f4), (kp f5), (kp f6), (kp f7), (kp f8), (fun _ => rfl), (kp f10), (kp f11), (kp f12), (kp f13), (fun h => by
              obtain ⟨gs, e1, e2⟩ := f14 (upd_ne h (by decide))
              exact ⟨gs, e1, fun h21 => e2 (by rw [upd_other (by decide)] at h21; exact h21)⟩), (kp f15), (kp f16), (kp f17), (kp f18), (kp f19), (kp f20), (kp f21), (kp f22), (fun h => by
              obtain ⟨gs, e1, e2⟩ := f23 (upd_ne h (by decide))
              exact ⟨gs, e1, fun h24 => e2 (by rw [upd_other (by decide)] at h24; exact h24)⟩), (fun h => by
              obtain ⟨A9, c9, e1, e2, e3⟩ := f24 (upd_ne h (by decide))
              exact ⟨A9, c9, e1, e2, fun h26 => e3 (by rw [upd_other (by decide)] at h26; exact h26)⟩), (kp f25), (kp f26)⟩
        · obtain rfl := Option.some.inj ho
          have h26 : L 26 = false := by
            cases hh : L 26
            · rfl
            · exact absurd ((I0 hh 10 (by omega)).symm.trans hL) (by decide)
          refine wpOp_step rfl (fun K' hK => ?_)
          go_simp
          refine hK _ _ ?_
          exact ⟨_, _, _, _, _, _, _, _, _, _, _, _, _, _, _, _, _, _, _, _, _, _, _, _, _, _, rfl, (upd_all I0 (by decide)), (fun h => I1 (by rw [upd_other (by decide)] at h; exact h)), (fun h => I2 (by rw [upd_other (by decide)] at h; exact h)), (fun h => upd_mono (I3 (upd_ne h (by decide)))), (fun h => upd_mono (I4 (upd_ne h (by decide)))), (fun h => upd_mono (I5 (upd_ne h (by decide)))), (fun h => upd_mono (I6 (upd_ne h (by decide)))), (kp f0), (kp f1), (kp f2), (kp f3), (kp f4), (kp f5), (kp f6), (kp f7), (kp f8), (kp f9), (fun _ => rfl), (kp f11), (kp f12), (kp f13), (fun h => by
              obtain ⟨gs, e1, e2⟩ := f14 (upd_ne h (by decide))
              exact ⟨gs, e1, fun h21 => e2 (by rw [upd_other (by decide)] at h21; exact h21)⟩), (kp f15), (kp f16), (kp f17), (kp f18), (kp f19), (kp f20), (kp f21), (kp f22), (fun h => by
              obtain ⟨gs, e1, e2⟩ := f23 (upd_ne h (by decide))
              exact ⟨gs, e1, fun h24 => e2 (by rw [upd_other (by decide)] at h24; exact h24)⟩), (fun h => by
              obtain ⟨A9, c9, e1, e2, e3⟩ := f24 (upd_ne h (by decide))
              exact ⟨A9, c9, e1, e2, fun h26 => e3 (by rw [upd_other (by decide)] at h26; exact h26)⟩), (kp f25), (kp f26)⟩
        · obtain rfl := Option.some.inj ho
          have g9 := f9 (hd ⟨9, .data⟩ (by simp) rfl)
          have g10 := f10 (hd ⟨10, .data⟩ (by simp) rfl)
          subst g9
          subst g10
          have h26 : L 26 = false := by
            cases hh : L 26
            · rfl
            · exact absurd ((I0 hh 11 (by omega)).symm.trans hL) (by decide)
          refine wpOp_step rfl (fun K' hK => ?_)
          go_simp
          refine hK _ _ ?_
          exact ⟨_, _, _, _, _, _, _, _, _, _, _, _, _, _, _, _, _, _, _, _, _, _, _, _, _, _, rfl, (upd_all I0 (by decide)), (fun h => I1 (by rw [upd_other (by decide)] at h; exact h)), (fun h => I2 (by rw [upd_other (by decide)] at h; exact h)), (fun h => upd_mono (I3 (upd_ne h (by decide)))), (fun h => upd_mono (I4 (upd_ne h (by decide)))), (fun h => upd_mono (I5 (upd_ne h (by decide)))), (fun h => upd_mono (I6 (upd_ne h (by decide)))), (kp f0), (kp f1), (kp f2), (kp f3), (kp f4), (kp f5), (kp f6), (kp f7), (kp f8), (kp f9), (kp f10), (fun _ => by first | rfl | simp), (kp f12), (kp f13), (fun h => by
              obtain ⟨gs, e1, e2⟩ := f14 (upd_ne h (by decide))
              exact ⟨gs, e1, fun h21 => e2 (by rw [upd_other (by decide)] at h21; exact h21)⟩), (kp f15), (kp f16), (kp f17), (kp f18), (kp f19), (kp f20), (kp f21), (kp f22), (fun h => by
              obtain ⟨gs, e1, e2⟩ := f23 (upd_ne h (by decide))
              exact ⟨gs, e1, fun h24 => e2 (by rw [upd_other (by decide)] at h24; exact h24)⟩), (fun h => by
              obtain ⟨A9, c9, e1, e2, e3⟩ := f24 (upd_ne h (by decide))
              exact ⟨A9, c9, e1, e2, fun h26 => e3 (by rw [upd_other (by decide)] at h26; exact h26)⟩), (kp f25), (kp f26)⟩
        · obtain rfl := Option.some.inj ho
          have g11 := f11 (hd ⟨11, .data⟩ (by simp) rfl)
          subst g11
          have h26 : L 26 = false := by
            cases hh : L 26
            · rfl
            · exact absurd ((I0 hh 12 (by omega)).symm.trans hL) (by decide)
          refine wpOp_step rfl (fun K' hK => ?_)
          go_simp
          refine hK _ _ ?_
          exact ⟨_, _, _, _, _, _, _, _, _, _, _, _, _, _, _, _, _, _, _, _, _, _, _, _, _, _, rfl, (upd_all I0 (by decide)), (fun h => I1 (by rw [upd_other (by decide)] at h; exact h)), (fun h => I2 (by rw [upd_other (by decide)] at h; exact h)), (fun h => upd_mono (I3 (upd_ne h (by decide)))), (fun h => upd_mono (I4 (upd_ne h (by decide)))), (fun h => upd_mono (I5 (upd_ne h (by decide)))), (fun h => upd_mono (I6 (upd_ne h (by decide)))), (kp f0), (kp f1), (kp f2), (kp f3), (kp f4), (kp f5), (kp f6), (kp f7), (kp f8), (kp f9), (kp f10), (kp f11), (fun _ => by first | rfl | simp), (kp f13), (fun h => by
              obtain ⟨gs, e1, e2⟩ := f14 (upd_ne h (by decide))
              exact ⟨gs, e1, fun h21 => e2 (by rw [upd_other (by decide)] at h21; exact h21)⟩), (kp f15), (kp f16), (kp f17), (kp f18), (kp f19), (kp f20), (kp f21), (kp f22), (fun h => by
              obtain ⟨gs, e1, e2⟩ := f23 (upd_ne h (by decide))
              exact ⟨gs, e1, fun h24 => e2 (by rw [upd_other (by decide)] at h24; exact h24)⟩), (fun h => by
              obtain ⟨A9, c9, e1, e2, e3⟩ := f24 (upd_ne h (by decide))
              exact ⟨A9, c9, e1, e2, fun h26 => e3 (by rw [upd_other (by decide)] at h26; exact h26)⟩), (kp f25), (kp f26)⟩
        · obtain rfl := Option.some.inj ho
          have g12 := f12 (hd ⟨12, .data⟩ (by simp) rfl)
          subst g12
          have h26 : L 26 = false := by
            cases hh : L 26
            · rfl
            · exact absurd ((I0 hh 13 (by omega)).symm.trans hL) (by decide)
          obtain ⟨k0, k1, k2, k3, k4⟩ := HC.out ww (I1 h26)
          refine wpOp_step rfl (fun K' hK => ?_)
          go_simp
          refine hK _ _ ?_
          exact ⟨_, _, _, _, _, _, _, _, _, _, _, _, _, _, _, _, _, _, _, _, _, _, _, _, _, _, rfl, (upd_all I0 (by decide)), (fun h => I1 (by rw [upd_other (by decide)] at h; exact h)), (fun h => I2 (by rw [upd_other (by decide)] at h; exact h)), (fun h => upd_mono (I3 (upd_ne h (by decide)))), (fun h => upd_mono (I4 (upd_ne h (by decide)))), (fun h => upd_mono (I5 (upd_ne h (by decide)))), (fun h => upd_mono (I6 (upd_ne h (by decide)))), (kp f0), (kp f1), (kp f2), (kp f3), (kp f4), (kp f5), (kp f6), (kp f7), (kp f8), (kp f9), (kp f10), (kp f11), (kp f12), (fun _ => rfl), (fun h => by
              obtain ⟨gs, e1, e2⟩ := f14 (upd_ne h (by decide))
              exact ⟨gs, e1, fun h21 => e2 (by rw [upd_other (by decide)] at h21; exact h21)⟩), (kp f15), (kp f16), (kp f17), (kp f18), (kp f19), (kp f20), (kp f21), (kp f22), (fun h => by
              obtain ⟨gs, e1, e2⟩ := f23 (upd_ne h (by decide))
              exact ⟨gs, e1, fun h24 => e2 (by rw [upd_other (by decide)] at h24; exact h24)⟩), (fun h => by
              obtain ⟨A9, c9, e1, e2, e3⟩ := f24 (upd_ne h (by decide))
              exact ⟨A9, c9, e1, e2, fun h26 => e3 (by rw [upd_other (by decide)] at h26; exact h26)⟩), (kp f25), (kp f26)⟩
        · obtain rfl := Option.some.inj ho
          have h26 : L 26 = false := by
            cases hh : L 26
            · rfl
            · exact absurd ((I0 hh 14 (by omega)).symm.trans hL) (by decide)
          have h21 : L 21 = false := by
            cases hh : L 21
            · rfl
            · exact absurd ((I3 hh)) (by rw [hL]; decide)
          have h23 : L 23 = false := by
            cases hh : L 23
            · rfl
            · exact absurd (I4 hh) (by rw [h21]; decide)
          have h24 : L 24 = false := by
            cases hh : L 24
            · rfl
            · exact absurd (I5 hh) (by rw [h23]; decide)
          have hB := I2 h24
          refine wpOp_step rfl (fun K' hK => ?_)
          go_simp
          refine hK _ _ ?_
          exact ⟨_, _, _, _, _, _, _, _, _, _, _, _, _, _, _, _, _, _, _, _, _, _, _, _, _, _, rfl, (upd_all I0 (by decide)), (fun _ => below_any (hB.alloc hB.size _) _), (fun _ => hB.alloc hB.size _), (fun _ => upd_self), (fun h => upd_mono (I4 (upd_ne h (by decide)))), (fun h => upd_mono (I5 (upd_ne h (by decide)))), (fun h => upd_mono (I6 (upd_ne h (by decide)))), (kp f0), (kp f1), (kp f2), (kp f3), (kp f4), (kp f5), (kp f6), (kp f7), (kp f8), (kp f9), (kp f10), (kp f11), (kp f12), (kp f13), (fun _ => ⟨_, rfl, fun _ => own_noneI ww wr.heap.size hB.size⟩), (kp f15), (kp f16), (kp f17), (kp f18), (kp f19), (kp f20), (fun h => absurd ((upd_ne h (by decide)).symm.trans h21) (by decide)), (fun h => absurd (I6 (upd_ne h (by decide))) (by rw [h21]; decide)), (fun h => absurd ((upd_ne h (by decide)).symm.trans h23) (by decide)), (fun h => absurd ((upd_ne h (by decide)).symm.trans h24) (by decide)), (kp f25), (fun h => absurd ((upd_ne h (by decide)).symm.trans h26) (by decide))⟩
        · obtain rfl := Option.some.inj ho
          have h26 : L 26 = false := by
            cases hh : L 26
            · rfl
            · exact absurd ((I0 hh 15 (by omega)).symm.trans hL) (by decide)
          refine wpOp_step rfl (fun K' hK => ?_)
          go_simp
          refine hK _ _ ?_
          exact ⟨_, _, _, _, _, _, _, _, _, _, _, _, _, _, _, _, _, _, _, _, _, _, _, _, _, _, rfl, (upd_all I0 (by decide)), (fun h => I1 (by rw [upd_other (by decide)] at h; exact h)), (fun h => I2 (by rw [upd_other (by decide)] at h; exact h)), (fun h => upd_mono (I3 (upd_ne h (by decide)))), (fun h => upd_mono (I4 (upd_ne h (by decide)))), (fun h => upd_mono (I5 (upd_ne h (by decide)))), (fun h => upd_mono (I6 (upd_ne h (by decide)))), (kp f0), (kp f1), (kp f2), (kp f3), (kp f4), (kp f5), (kp f6), (kp f7), (kp f8), (kp f9), (kp f10), (kp f11), (kp f12), (kp f13), (fun h => by
              obtain ⟨gs, e1, e2⟩ := f14 (upd_ne h (by decide))
              exact ⟨gs, e1, fun h21 => e2 (by rw [upd_other (by decide)] at h21; exact h21)⟩), (fun _ => by first | rfl | simp), (kp f16), (kp f17), (kp f18), (kp f19), (kp f20), (kp f21), (kp f22), (fun h => by
              obtain ⟨gs, e1, e2⟩ := f23 (upd_ne h (by decide))
              exact ⟨gs, e1, fun h24 => e2 (by rw [upd_other (by decide)] at h24; exact h24)⟩), (fun h => by
              obtain ⟨A9, c9, e1, e2, e3⟩ := f24 (upd_ne h (by decide))
              exact ⟨A9, c9, e1, e2, fun h26 => e3 (by rw [upd_other (by decide)] at h26; exact h26)⟩), (kp f25), (kp f26)⟩
        · obtain rfl := Option.some.inj ho
          have g15 := f15 (hd ⟨15, .data⟩ (by simp) rfl)
          subst g15
          have h26 : L 26 = false := by
            cases hh : L 26
            · rfl
            · exact absurd ((I0 hh 16 (by omega)).symm.trans hL) (by decide)
          obtain ⟨k0, k1, k2, k3, k4⟩ := HC.out ww (I1 h26)
          refine wpOp_step rfl (fun K' hK => ?_)
          go_simp
          refine hK _ _ ?_
          exact ⟨_, _, _, _, _, _, _, _, _, _, _, _, _, _, _, _, _, _, _, _, _, _, _, _, _, _, rfl, (upd_all I0 (by decide)), (fun h => I1 (by rw [upd_other (by decide)] at h; exact h)), (fun h => I2 (by rw [upd_other (by decide)] at h; exact h)), (fun h => upd_mono (I3 (upd_ne h (by decide)))), (fun h => upd_mono (I4 (upd_ne h (by decide)))), (fun h => upd_mono (I5 (upd_ne h (by decide)))), (fun h => upd_mono (I6 (upd_ne h (by decide)))), (kp f0), (kp f1), (kp f2), (kp f3), (kp f4), (kp f5), (kp f6), (kp f7), (kp f8), (kp f9), (kp f10), (kp f11), (kp f12), (kp f13), (fun h => by
              obtain ⟨gs, e1, e2⟩ := f14 (upd_ne h (by decide))
              exact ⟨gs, e1, fun h21 => e2 (by rw [upd_other (by decide)] at h21; exact h21)⟩), (kp f15), (fun _ => rfl), (kp f17), (kp f18), (kp f19), (kp f20), (kp f21), (kp f22), (fun h => by
              obtain ⟨gs, e1, e2⟩ := f23 (upd_ne h (by decide))
              exact ⟨gs, e1, fun h24 => e2 (by rw [upd_other (by decide)] at h24; exact h24)⟩), (fun h => by
              obtain ⟨A9, c9, e1, e2, e3⟩ := f24 (upd_ne h (by decide))
              exact ⟨A9, c9, e1, e2, fun h26 => e3 (by rw [upd_other (by decide)] at h26; exact h26)⟩), (kp f25), (kp f26)⟩
        · obtain rfl := Option.some.inj ho
          have h26 : L 26 = false := by
            cases hh : L 26
            · rfl
            · exact absurd ((I0 hh 17 (by omega)).symm.trans hL) (by decide)
          refine wpOp_step rfl (fun K' hK => ?_)
          go_simp
          refine hK _ _ ?_
          exact ⟨_, _, _, _, _, _, _, _, _, _, _, _, _, _, _, _, _, _, _, _, _, _, _, _, _, _, rfl, (upd_all I0 (by decide)), (fun h => I1 (by rw [upd_other (by decide)] at h; exact h)), (fun h => I2 (by rw [upd_other (by decide)] at h; exact h)), (fun h => upd_mono (I3 (upd_ne h (by decide)))), (fun h => upd_mono (I4 (upd_ne h (by decide)))), (fun h => upd_mono (I5 (upd_ne h (by decide)))), (fun h => upd_mono (I6 (upd_ne h (by decide)))), (kp f0), (kp f1), (kp f2), (kp f3), (kp f4), (kp f5), (kp f6), (kp f7), (kp f8), (kp f9), (kp f10), (kp f11), (kp f12), (kp f13), (fun h => by
              obtain ⟨gs, e1, e2⟩ := f14 (upd_ne h (by decide))
              exact ⟨gs, e1, fun h21 => e2 (by rw [upd_other (by decide)] at h21; exact h21)⟩), (kp f15), (kp f16), (fun _ => rfl), (kp f18), (kp f19), (kp f20), (kp f21), (kp f22), (fun h => by
              obtain ⟨gs, e1, e2⟩ := f23 (upd_ne h (by decide))
              exact ⟨gs, e1, fun h24 => e2 (by rw [upd_other (by decide)] at h24; exact h24)⟩), (fun h => by
              obtain ⟨A9, c9, e1, e2, e3⟩ := f24 (upd_ne h (by decide))
              exact ⟨A9, c9, e1, e2, fun h26 => e3 (by rw [upd_other (by decide)] at h26; exact h26)⟩), (kp f25), (kp f26)⟩
        · obtain rfl := Option.some.inj ho
          have g16 := f16 (hd ⟨16, .data⟩ (by simp) rfl)
          have g17 := f17 (hd ⟨17, .data⟩ (by simp) rfl)
          subst g16
          subst g17
          have h26 : L 26 = false := by
            cases hh : L 26
            · rfl
            · exact absurd ((I0 hh 18 (by omega)).symm.trans hL) (by decide)
          refine wpOp_step rfl (fun K' hK => ?_)
          go_simp
          refine hK _ _ ?_
          exact ⟨_, _, _, _, _, _, _, _, _, _, _, _, _, _, _, _, _, _, _, _, _, _, _, _, _, _, rfl, (upd_all I0 (by decide)), (fun h => I1 (by rw [upd_other (by decide)] at h; exact h)), (fun h => I2 (by rw [upd_other (by decide)] at h; exact h)), (fun h => upd_mono (I3 (upd_ne h (by decide)))), (fun h => upd_mono (I4 (upd_ne h (by decide)))), (fun h => upd_mono (I5 (upd_ne h (by decide)))), (fun h => upd_mono (I6 (upd_ne h (by decide)))), (kp f0), (kp f1), (kp f2), (kp f3), (kp f4), (kp f5), (kp f6), (kp f7), (kp f8), (kp f9), (kp f10), (kp f11), (kp f12), (kp f13), (fun h => by
              obtain ⟨gs, e1, e2⟩ := f14 (upd_ne h (by decide))
              exact ⟨gs, e1, fun h21 => e2 (by rw [upd_other (by decide)] at h21; exact h21)⟩), (kp f15), (kp f16), (kp f17), (fun _ => by first | rfl | simp), (kp f19), (kp f20), (kp f21), (kp f22), (fun h => by
              obtain ⟨gs, e1, e2⟩ := f23 (upd_ne h (by decide))
              exact ⟨gs, e1, fun h24 => e2 (by rw [upd_other (by decide)] at h24; exact h24)⟩), (fun h => by
              obtain ⟨A9, c9, e1, e2, e3⟩ := f24 (upd_ne h (by decide))
              exact ⟨A9, c9, e1, e2, fun h26 => e3 (by rw [upd_other (by decide)] at h26; exact h26)⟩), (kp f25), (kp f26)⟩
        · obtain rfl := Option.some.inj ho
          have g18 := f18 (hd ⟨18, .data⟩ (by simp) rfl)
          subst g18
          have h26 : L 26 = false := by
            cases hh : L 26
            · rfl
            · exact absurd ((I0 hh 19 (by omega)).symm.trans hL) (by decide)
          refine wpOp_step rfl (fun K' hK => ?_)
          go_simp
          refine hK _ _ ?_
          exact ⟨_, _, _, _, _, _, _, _, _, _, _, _, _, _, _, _, _, _, _, _, _, _, _, _, _, _, rfl, (upd_all I0 (by decide)), (fun h => I1 (by rw [upd_other (by decide)] at h; exact h)), (fun h => I2 (by rw [upd_other (by decide)] at h; exact h)), (fun h => upd_mono (I3 (upd_ne h (by decide)))), (fun h => upd_mono (I4 (upd_ne h (by decide)))), (fun h => upd_mono (I5 (upd_ne h (by decide)))), (fun h => upd_mono (I6 (upd_ne h (by decide)))), (kp f0), (kp f1), (kp f2), (kp f3), (kp f4), (kp f5), (kp f6), (kp f7), (kp f8), (kp f9), (kp f10), (kp f11), (kp f12), (kp f13), (fun h => by
              obtain ⟨gs, e1, e2⟩ := f14 (upd_ne h (by decide))
              exact ⟨gs, e1, fun h21 => e2 (by rw [upd_other (by decide)] at h21; exact h21)⟩), (kp f15), (kp f16), (kp f17), (kp f18), (fun _ => by first | rfl | simp), (kp f20), (kp f21), (kp f22), (fun h => by
              obtain ⟨gs, e1, e2⟩ := f23 (upd_ne h (by decide))
              exact ⟨gs, e1, fun h24 => e2 (by rw [upd_other (by decide)] at h24; exact h24)⟩), (fun h => by
              obtain ⟨A9, c9, e1, e2, e3⟩ := f24 (upd_ne h (by decide))
              exact ⟨A9, c9, e1, e2, fun h26 => e3 (by rw [upd_other (by decide)] at h26; exact h26)⟩), (kp f25), (kp f26)⟩
        · obtain rfl := Option.some.inj ho
          have g19 := f19 (hd ⟨19, .data⟩ (by simp) rfl)
          subst g19
          have h26 : L 26 = false := by
            cases hh : L 26
            · rfl
            · exact absurd ((I0 hh 20 (by omega)).symm.trans hL) (by decide)
          obtain ⟨k0, k1, k2, k3, k4⟩ := HC.out ww (I1 h26)
          refine wpOp_step rfl (fun K' hK => ?_)
          go_simp
          refine hK _ _ ?_
          exact ⟨_, _, _, _, _, _, _, _, _, _, _, _, _, _, _, _, _, _, _, _, _, _, _, _, _, _, rfl, (upd_all I0 (by decide)), (fun h => I1 (by rw [upd_other (by decide)] at h; exact h)), (fun h => I2 (by rw [upd_other (by decide)] at h; exact h)), (fun h => upd_mono (I3 (upd_ne h (by decide)))), (fun h => upd_mono (I4 (upd_ne h (by decide)))), (fun h => upd_mono (I5 (upd_ne h (by decide)))), (fun h => upd_mono (I6 (upd_ne h (by decide)))), (kp f0), (kp f1), (kp f2), (kp f3), (kp f4), (kp f5), (kp f6), (kp f7), (kp f8), (kp f9), (kp f10), (kp f11), (kp f12), (kp f13), (fun h => by
              obtain ⟨gs, e1, e2⟩ := f14 (upd_ne h (by decide))
              exact ⟨gs, e1, fun h21 => e2 (by rw [upd_other (by decide)] at h21; exact h21)⟩), (kp f15), (kp f16), (kp f17), (kp f18), (kp f19), (fun _ => rfl), (kp f21), (kp f22), (fun h => by
              obtain ⟨gs, e1, e2⟩ := f23 (upd_ne h (by decide))
              exact ⟨gs, e1, fun h24 => e2 (by rw [upd_other (by decide)] at h24; exact h24)⟩), (fun h => by
              obtain ⟨A9, c9, e1, e2, e3⟩ := f24 (upd_ne h (by decide))
              exact ⟨A9, c9, e1, e2, fun h26 => e3 (by rw [upd_other (by decide)] at h26; exact h26)⟩), (kp f25), (kp f26)⟩
        · obtain rfl := Option.some.inj ho
          have g14 := f14 (hd ⟨14, .data⟩ (by simp) rfl)
          have g20 := f20 (hd ⟨20, .data⟩ (by simp) rfl)
          subst g20
          have h26 : L 26 = false := by
            cases hh : L 26
            · rfl
            · exact absurd ((I0 hh 21 (by omega)).symm.trans hL) (by decide)
          obtain ⟨gs, rfl, e14⟩ := g14
          have o14 := e14 hL
          have h23 : L 23 = false := by
            cases hh : L 23
            · rfl
            · exact absurd (I4 hh) (by rw [hL]; decide)
          have h24 : L 24 = false := by
            cases hh : L 24
            · rfl
            · exact absurd (I5 hh) (by rw [h23]; decide)
          have h22 : L 22 = false := by
            cases hh : L 22
            · rfl
            · exact absurd (I6 hh) (by rw [hL]; decide)
          have hB := I2 h24
          have hG := I1 h26
          refine wpOp_step rfl (fun K' hK => ?_)
          refine app_stepI rfl (.tmp 31) (.tmp 37) rfl wr.heap.size _ [] rfl o14 A' m' cc wr.heap.size cl.r rfl (HI.out.below hB) (by simp <;> omega) hB.size ?_
          intro v' w' o1 g1 s1
          rw [List.nil_append] at o1
          have hrow := fun kk hk => (World.ownsRow.lt o14 kk hk).1
          have hB2 := hB.grown g1 hB.size hrow
          obtain ⟨A8, c8, e8, x8⟩ := o1.form
          rw [hl3] at e8
          subst e8
          refine hK _ _ ?_
          exact ⟨_, _, _, _, _, _, _, _, _, _, _, _, _, _, _, _, _, _, _, _, _, _, _, _, _, _, rfl, (upd_all I0 (by decide)), (fun _ => below_any hB2 _), (fun _ => hB2), (fun _ => upd_mono (hd ⟨14, .data⟩ (by simp) rfl)), (fun _ => upd_self), (fun h => upd_mono (I5 (upd_ne h (by decide)))), (fun _ => upd_self), (kp f0), (kp f1), (kp f2), (kp f3), (kp f4), (kp f5), (kp f6), (kp f7), (kp f8), (kp f9), (kp f10), (kp f11), (kp f12), (kp f13), (fun _ => ⟨gs, rfl, fun h => absurd (upd_self.symm.trans h) (by decide)⟩), (kp f15), (kp f16), (kp f17), (kp f18), (kp f19), (kp f20), (fun _ => ⟨A8, c8, rfl, o1⟩), (fun h => absurd ((upd_ne h (by decide)).symm.trans h22) (by decide)), (fun h => absurd ((upd_ne h (by decide)).symm.trans h23) (by decide)), (fun h => absurd ((upd_ne h (by decide)).symm.trans h24) (by decide)), (kp f25), (fun h => absurd ((upd_ne h (by decide)).symm.trans h26) (by decide))⟩
        · obtain rfl := Option.some.inj ho
          have g7 := f7 (hd ⟨7, .data⟩ (by simp) rfl)
          have g13 := f13 (hd ⟨13, .data⟩ (by simp) rfl)
          have g21 := f21 (hd ⟨21, .data⟩ (by simp) rfl)
          subst g7
          subst g13
          have h26 : L 26 = false := by
            cases hh : L 26
            · rfl
            · exact absurd ((I0 hh 22 (by omega)).symm.trans hL) (by decide)
          obtain ⟨A8, c8, rfl, o8⟩ := g21
          refine wpOp_step rfl (fun K' hK => ?_)
          go_simp
          refine hK _ _ ?_
          exact ⟨_, _, _, _, _, _, _, _, _, _, _, _, _, _, _, _, _, _, _, _, _, _, _, _, _, _, rfl, (upd_all I0 (by decide)), (fun h => I1 (by rw [upd_other (by decide)] at h; exact h)), (fun h => I2 (by rw [upd_other (by decide)] at h; exact h)), (fun h => upd_mono (I3 (upd_ne h (by decide)))), (fun h => upd_mono (I4 (upd_ne h (by decide)))), (fun h => upd_mono (I5 (upd_ne h (by decide)))), (fun _ => upd_mono (hd ⟨21, .data⟩ (by simp) rfl)), (kp f0), (kp f1), (kp f2), (kp f3), (kp f4), (kp f5), (kp f6), (kp f7), (kp f8), (kp f9), (kp f10), (kp f11), (kp f12), (kp f13), (fun h => by
              obtain ⟨gs, e1, e2⟩ := f14 (upd_ne h (by decide))
              exact ⟨gs, e1, fun h21 => e2 (by rw [upd_other (by decide)] at h21; exact h21)⟩), (kp f15), (kp f16), (kp f17), (kp f18), (kp f19), (kp f20), (fun _ => ⟨A8, c8, rfl, o8⟩), (fun _ => rfl), (fun h => by
              obtain ⟨gs, e1, e2⟩ := f23 (upd_ne h (by decide))
              exact ⟨gs, e1, fun h24 => e2 (by rw [upd_other (by decide)] at h24; exact h24)⟩), (fun h => by
              obtain ⟨A9, c9, e1, e2, e3⟩ := f24 (upd_ne h (by decide))
              exact ⟨A9, c9, e1, e2, fun h26 => e3 (by rw [upd_other (by decide)] at h26; exact h26)⟩), (kp f25), (kp f26)⟩
        · obtain rfl := Option.some.inj ho
          have g22 := f22 (hd ⟨22, .data⟩ (by simp) rfl)
          subst g22
          have h26 : L 26 = false := by
            cases hh : L 26
            · rfl
            · exact absurd ((I0 hh 23 (by omega)).symm.trans hL) (by decide)
          have h21 := I6 (hd ⟨22, .data⟩ (by simp) rfl)
          obtain ⟨A8, c8, rfl, o8⟩ := f21 h21
          have h24 : L 24 = false := by
            cases hh : L 24
            · rfl
            · exact absurd (I5 hh) (by rw [hL]; decide)
          have hB := I2 h24
          refine wpOp_step rfl (fun K' hK => ?_)
          go_simp
          refine hK _ _ ?_
          exact ⟨_, _, _, _, _, _, _, _, _, _, _, _, _, _, _, _, _, _, _, _, _, _, _, _, _, _, rfl, (upd_all I0 (by decide)), (fun _ => below_any (hB.alloc hB.size _) _), (fun _ => hB.alloc hB.size _), (fun h => upd_mono (I3 (upd_ne h (by decide)))), (fun _ => upd_mono h21), (fun _ => upd_self), (fun h => upd_mono (I6 (upd_ne h (by decide)))), (kp f0), (kp f1), (kp f2), (kp f3), (kp f4), (kp f5), (kp f6), (kp f7), (kp f8), (kp f9), (kp f10), (kp f11), (kp f12), (kp f13), (fun h => by
              obtain ⟨gs, e1, e2⟩ := f14 (upd_ne h (by decide))
              exact ⟨gs, e1, fun hh => absurd (h21.symm.trans ((upd_other (by decide)).symm.trans hh)) (by decide)⟩), (kp f15), (kp f16), (kp f17), (kp f18), (kp f19), (kp f20), (fun _ => ⟨A8, c8, rfl, World.ownsRow.alloc o8 _⟩), (kp f22), (fun _ => ⟨_, rfl, fun _ => Rw.new _ _ _⟩), (fun h => absurd ((upd_ne h (by decide)).symm.trans h24) (by decide)), (kp f25), (fun h => absurd ((upd_ne h (by decide)).symm.trans h26) (by decide))⟩
        · obtain rfl := Option.some.inj ho
          have g1 := f1 (hd ⟨1, .data⟩ (by simp) rfl)
          have g23 := f23 (hd ⟨23, .data⟩ (by simp) rfl)
          subst g1
          have h26 : L 26 = false := by
            cases hh : L 26
            · rfl
            · exact absurd ((I0 hh 24 (by omega)).symm.trans hL) (by decide)
          obtain ⟨gs, rfl, e23⟩ := g23
          have q23 := e23 hL
          have h23 := hd ⟨23, .data⟩ (by simp) rfl
          have h21 := I4 h23
          obtain ⟨A8, c8, rfl, o8⟩ := f21 h21
          have hB := I2 hL
          refine wpOp_step rfl (fun K' hK => ?_)
          refine app_stepC rfl (.tmp 18) (.tmp 40) rfl (w.heap.size + 2) _ k (flatC (h.cs.take k) rvs) rfl (row_below HROW.out hB (Nat.le_refl _)) gs cl.u cl.d A8 m' c8 rfl q23 (by omega) (Nat.le_trans hbase hB.size) ?_
          intro v' w' A9 c9 e9 o1 g1 s1
          subst e9
          have hG2 := World.grownBy.trans (I1 h26) g1
          have o8' := o8.far g1 (APART.out _ (fun kk hk => (World.ownsRow.lt o8 kk hk).1))
          have hsep : (Value.slice A9 (k + 1) c9).ownBlock = (Value.slice A8 m' c8).ownBlock → (Value.slice A8 m' c8).ownBlock = none := fun e => sep_new s1 e (fun kk hk => World.ownsRow.lt o8 kk hk) (fun kk hk => (World.ownsRow.lt HROW.out kk hk).2)
          refine hK _ _ ?_
          exact ⟨_, _, _, _, _, _, _, _, _, _, _, _, _, _, _, _, _, _, _, _, _, _, _, _, _, _, rfl, (upd_all I0 (by decide)), (fun _ => hG2), (fun h => absurd (upd_self.symm.trans h) (by decide)), (fun h => upd_mono (I3 (upd_ne h (by decide)))), (fun h => upd_mono (I4 (upd_ne h (by decide)))), (fun _ => upd_mono h23), (fun h => upd_mono (I6 (upd_ne h (by decide)))), (kp f0), (kp f1), (kp f2), (kp f3), (kp f4), (kp f5), (kp f6), (kp f7), (kp f8), (kp f9), (kp f10), (kp f11), (kp f12), (kp f13), (fun h => by
              obtain ⟨gs, e1, e2⟩ := f14 (upd_ne h (by decide))
              exact ⟨gs, e1, fun hh => absurd (h21.symm.trans ((upd_other (by decide)).symm.trans hh)) (by decide)⟩), (kp f15), (kp f16), (kp f17), (kp f18), (kp f19), (kp f20), (fun _ => ⟨A8, c8, rfl, o8'⟩), (kp f22), (fun _ => ⟨gs, rfl, fun h => absurd (upd_self.symm.trans h) (by decide)⟩), (fun _ => ⟨A9, c9, rfl, s1.imp id (fun e => ⟨_, e, hB.size⟩), fun _ => ⟨o1, hsep⟩⟩), (kp f25), (fun h => absurd ((upd_ne h (by decide)).symm.trans h26) (by decide))⟩
        · obtain rfl := Option.some.inj ho
          have h26 : L 26 = false := by
            cases hh : L 26
            · rfl
            · exact absurd ((I0 hh 25 (by omega)).symm.trans hL) (by decide)
          refine wpOp_step rfl (fun K' hK => ?_)
          go_simp
          refine hK _ _ ?_
          exact ⟨_, _, _, _, _, _, _, _, _, _, _, _, _, _, _, _, _, _, _, _, _, _, _, _, _, _, rfl, (upd_all I0 (by decide)), (fun h => I1 (by rw [upd_other (by decide)] at h; exact h)), (fun h => I2 (by rw [upd_other (by decide)] at h; exact h)), (fun h => upd_mono (I3 (upd_ne h (by decide)))), (fun h => upd_mono (I4 (upd_ne h (by decide)))), (fun h => upd_mono (I5 (upd_ne h (by decide)))), (fun h => upd_mono (I6 (upd_ne h (by decide)))), (kp f0), (kp f1), (kp f2), (kp f3), (kp f4), (kp f5), (kp f6), (kp f7), (kp f8), (kp f9), (kp f10), (kp f11), (kp f12), (kp f13), (fun h => by
              obtain ⟨gs, e1, e2⟩ := f14 (upd_ne h (by decide))
              exact ⟨gs, e1, fun h21 => e2 (by rw [upd_other (by decide)] at h21; exact h21)⟩), (kp f15), (kp f16), (kp f17), (kp f18), (kp f19), (kp f20), (kp f21), (kp f22), (fun h => by
              obtain ⟨gs, e1, e2⟩ := f23 (upd_ne h (by decide))
              exact ⟨gs, e1, fun h24 => e2 (by rw [upd_other (by decide)] at h24; exact h24)⟩), (fun h => by
              obtain ⟨A9, c9, e1, e2, e3⟩ := f24 (upd_ne h (by decide))
              exact ⟨A9, c9, e1, e2, fun h26 => e3 (by rw [upd_other (by decide)] at h26; exact h26)⟩), (fun _ => by first | rfl | simp), (kp f26)⟩
        · obtain rfl := Option.some.inj ho
          have g24 := f24 (hd ⟨24, .data⟩ (by simp) rfl)
          have g25 := f25 (hd ⟨25, .data⟩ (by simp) rfl)
          subst g25
          have hphase := Lib.hid (show ∀ k, k < 26 → L k = true by
            intro k hk
            obtain rfl | rfl | rfl | rfl | rfl | rfl | rfl | rfl | rfl | rfl | rfl | rfl | rfl | rfl | rfl | rfl | rfl | rfl | rfl | rfl | rfl | rfl | rfl | rfl | rfl | rfl : k = 0 ∨ k = 1 ∨ k = 2 ∨ k = 3 ∨ k = 4 ∨ k = 5 ∨ k = 6 ∨ k = 7 ∨ k = 8 ∨ k = 9 ∨ k = 10 ∨ k = 11 ∨ k = 12 ∨ k = 13 ∨ k = 14 ∨ k = 15 ∨ k = 16 ∨ k = 17 ∨ k = 18 ∨ k = 19 ∨ k = 20 ∨ k = 21 ∨ k = 22 ∨ k = 23 ∨ k = 24 ∨ k = 25 := by omega
            · exact hd ⟨0, .phase⟩ (by simp) rfl
            · exact hd ⟨1, .phase⟩ (by simp) rfl
            · exact hd ⟨2, .phase⟩ (by simp) rfl
            · exact hd ⟨3, .phase⟩ (by simp) rfl
            · exact hd ⟨4, .phase⟩ (by simp) rfl
            · exact hd ⟨5, .phase⟩ (by simp) rfl
            · exact hd ⟨6, .phase⟩ (by simp) rfl
            · exact hd ⟨7, .phase⟩ (by simp) rfl
            · exact hd ⟨8, .phase⟩ (by simp) rfl
            · exact hd ⟨9, .phase⟩ (by simp) rfl
            · exact hd ⟨10, .phase⟩ (by simp) rfl
            · exact hd ⟨11, .phase⟩ (by simp) rfl
            · exact hd ⟨12, .phase⟩ (by simp) rfl
            · exact hd ⟨13, .phase⟩ (by simp) rfl
            · exact hd ⟨14, .phase⟩ (by simp) rfl
            · exact hd ⟨15, .phase⟩ (by simp) rfl
            · exact hd ⟨16, .phase⟩ (by simp) rfl
            · exact hd ⟨17, .phase⟩ (by simp) rfl
            · exact hd ⟨18, .phase⟩ (by simp) rfl
            · exact hd ⟨19, .phase⟩ (by simp) rfl
            · exact hd ⟨20, .phase⟩ (by simp) rfl
            · exact hd ⟨21, .phase⟩ (by simp) rfl
            · exact hd ⟨22, .phase⟩ (by simp) rfl
            · exact hd ⟨23, .phase⟩ (by simp) rfl
            · exact hd ⟨24, .data⟩ (by simp) rfl
            · exact hd ⟨25, .data⟩ (by simp) rfl)
          obtain ⟨A9, c9, rfl, q24, e24⟩ := g24
          obtain ⟨o9, hsep⟩ := e24 hL
          have h21 := hphase.out 21 (by omega)
          obtain ⟨A8, c8, rfl, o8⟩ := f21 h21
          have hG := I1 hL
          obtain ⟨k0, k1, k2, k3, k4⟩ := HC.out ww hG
          have kf := HFZ.out ww hG
          refine wpOp_step rfl (fun K' hK => ?_)
          go_simp
          refine hK _ _ ?_
          exact ⟨_, _, _, _, _, _, _, _, _, _, _, _, _, _, _, _, _, _, _, _, _, _, _, _, _, _, rfl, (fun _ k hk => upd_mono (hphase.out k hk)), (fun h => absurd (upd_self.symm.trans h) (by decide)), (fun h => absurd ((upd_other (by decide)).symm.trans h) (by rw [hphase.out 24 (by omega)]; decide)), (fun h => upd_mono (I3 (upd_ne h (by decide)))), (fun h => upd_mono (I4 (upd_ne h (by decide)))), (fun h => upd_mono (I5 (upd_ne h (by decide)))), (fun h => upd_mono (I6 (upd_ne h (by decide)))), (kp f0), (kp f1), (kp f2), (kp f3), (kp f4), (kp f5), (kp f6), (kp f7), (kp f8), (kp f9), (kp f10), (kp f11), (kp f12), (kp f13), (fun h => by
              obtain ⟨gs, e1, e2⟩ := f14 (upd_ne h (by decide))
              exact ⟨gs, e1, fun hh => absurd (h21.symm.trans ((upd_other (by decide)).symm.trans hh)) (by decide)⟩), (kp f15), (kp f16), (kp f17), (kp f18), (kp f19), (kp f20), (fun _ => ⟨A8, c8, rfl, o8.far (only_put (g := w5.heap.size) (World.grownBy.refl _ _) 0 _) (APB.out _ (fun kk hk => (World.ownsRow.lt o8 kk hk).1))⟩), (kp f22), (fun h => by
              obtain ⟨gs, e1, e2⟩ := f23 (upd_ne h (by decide))
              exact ⟨gs, e1, fun hh => absurd ((hphase.out 24 (by omega)).symm.trans ((upd_other (by decide)).symm.trans hh)) (by decide)⟩), (fun _ => ⟨A9, c9, rfl, q24, fun h => absurd (upd_self.symm.trans h) (by decide)⟩), (kp f25), (fun _ => ⟨ww, rfl, hG, o9, hsep⟩)⟩
      case hdone =>
        rintro L ac ww hall ⟨t17, t18, t19, t20, t21, t22, t23, t24, t25, t26, t27, t28, t29, t30, t31, t32, t33, t34, t35, t36, t37, t38, t39, t40, t41, t42, rfl, I0, I1, I2, I3, I4, I5, I6, f0, f1, f2, f3, f4, f5, f6, f7, f8, f9, f10, f11, f12, f13, f14, f15, f16, f17, f18, f19, f20, f21, f22, f23, f24, f25, f26⟩
        have e0 := f0 (hall 0 (by decide))
        have e1 := f1 (hall 1 (by decide))
        have e2 := f2 (hall 2 (by decide))
        have e3 := f3 (hall 3 (by decide))
        have e4 := f4 (hall 4 (by decide))
        have e5 := f5 (hall 5 (by decide))
        have e6 := f6 (hall 6 (by decide))
        have e7 := f7 (hall 7 (by decide))
        have e8 := f8 (hall 8 (by decide))
        have e9 := f9 (hall 9 (by decide))
        have e10 := f10 (hall 10 (by decide))
        have e11 := f11 (hall 11 (by decide))
        have e12 := f12 (hall 12 (by decide))
        have e13 := f13 (hall 13 (by decide))
        have e14 := f14 (hall 14 (by decide))
        have e15 := f15 (hall 15 (by decide))
        have e16 := f16 (hall 16 (by decide))
        have e17 := f17 (hall 17 (by decide))
        have e18 := f18 (hall 18 (by decide))
        have e19 := f19 (hall 19 (by decide))
        have e20 := f20 (hall 20 (by decide))
        have e21 := f21 (hall 21 (by decide))
        have e22 := f22 (hall 22 (by decide))
        have e23 := f23 (hall 23 (by decide))
        have e24 := f24 (hall 24 (by decide))
        have e25 := f25 (hall 25 (by decide))
        have e26 := f26 (hall 26 (by decide))
        clear f0 f1 f2 f3 f4 f5 f6 f7 f8 f9 f10 f11 f12 f13 f14 f15 f16 f17 f18 f19 f20 f21 f22 f23 f24 f25 f26
        obtain ⟨A9, c9, rfl, q24, _⟩ := e24
        obtain ⟨A8, c8, rfl, o8⟩ := e21
        obtain ⟨w1, rfl, hG, o9, hsep⟩ := e26
        have NX := Lib.hid (HS.out.next hlc hlt HCL.out hG o9 hsep q24 o8)
        clear o9 o8 hsep q24 hG I0 I1 I2 I3 I4 I5 I6
        go_wp2
        go_roundw
        case rel => exact ⟨k + 1, A9, c9, _, by omega, by go_num, NX.out⟩
        case measure => simp [intOf]; omega
    · obtain rfl : k = n := by omega
      have htk : h.cs.take k = h.cs := List.take_of_length_le (by omega)
      rw [htk] at S
      have x0 : wr.cell? ⟨w5.heap.size, 0, none⟩ = some (.slice Av k cv) := S.box.cell 0
      have x1 : wr.cell? ⟨w5.heap.size, 1, none⟩ = some (.slice A5 m c5) := S.box.cell 1
      have y0 : wr.cell? ⟨w.heap.size + 1, 0, none⟩ = some (.slice none 0 0) := S.res.cell 0
      have y1 : wr.cell? ⟨w.heap.size + 1, 1, none⟩ = some (.slice none 0 0) := S.res.cell 1
      have y2 := S.res.frozen 0
      have y3 := S.res.frozen 1
      have q0 := ((S.res.put 0 (.slice Av k cv)).put 1 (.slice A5 m c5)).cell 0
      have q1 := ((S.res.put 0 (.slice Av k cv)).put 1 (.slice A5 m c5)).cell 1
      have bn := (S.bel.setCell (p := ⟨w.heap.size + 1, 0, none⟩) (by simp) (.slice Av k cv)).setCell (p := ⟨w.heap.size + 1, 1, none⟩) (by simp) (.slice A5 m c5)
      have ap : Apart (some (w.heap.size + 1)) (Value.slice Av k cv :: Value.slice A5 m c5 :: rvs) := S.own.apart_below (by omega)
      have oh : OwnH ((wr.setCell ⟨w.heap.size + 1, 0, none⟩ (.slice Av k cv)).setCell ⟨w.heap.size + 1, 1, none⟩ (.slice A5 m c5)) w.heap.size (.slice Av k cv) (.slice A5 m c5) h :=
        ⟨rvs, ((S.own.far (only_put (g := w.heap.size + 1) (World.grownBy.refl _ _) 0 (.slice Av k cv)) ap).far (only_put (g := w.heap.size + 1) (World.grownBy.refl _ _) 1 (.slice A5 m c5)) ap).base (by omega)⟩
      have OH := Lib.hid oh
      simp at q0 q1
      clear ap htk oh S
      go_wp2_with fail
      exact bodyPost_ret (v := .agg #[.slice Av k cv, .slice A5 m c5]) (by simp [results, Try.results43, go_sem, *]) rfl ⟨_, _, rfl, OH.out, bn⟩
end Go.Proofs.Ytakdjiojahlnmaa
