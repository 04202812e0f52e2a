/- What the claim DSweepTwice stands on, part 4 of 5: texts of one seat put together, with what the claim needs of them. No conditions. -/
import Derived.Test.YthmddmddcdofaaaDoorShJc
namespace Go.Proofs.YthmddmddcdofaaaDoor
open Go.RowKit
set_option maxRecDepth 100000
/-- a valid program has been drawn -/
def DrewP0 (w : World) (gr N : Nat) (e : Ending) (w' : World) : Prop :=
  ∃ (v : Value) (l : List Cm), e = .returned v ∧ OwnM w' w.heap.size v l ∧ Hps.okCms l = true ∧ Rd w' gr (N + 600) ∧ w.grownBy w' (some gr)
/-- what is known while instructions are drawn -/
structure DrawSM (w : World) (gr N : Nat) (wr : World) (v : Value) (l : List Cm) : Prop where
  own : OwnM wr w.heap.size v l
  rd : Rd wr gr N
  grown : w.grownBy wr (some gr)
theorem DrawSM.pick {w wr w' : World} {gr N N' : Nat} {v : Value} {l : List Cm} (h : DrawSM w gr N wr v l) (hgr : gr < w.heap.size) (hr : Rd w' gr N') (hg : wr.grownBy w' (some gr)) : DrawSM w gr N' w' v l := by
  refine ⟨h.own.far hg ?_, hr, World.grownBy.trans h.grown hg⟩
  right
  intro e
  have := (World.ownsRow.lt h.own gr e).1
  omega
theorem DrawSM.more {w wr : World} {gr N N' : Nat} {v : Value} {l : List Cm} (h : DrawSM w gr N wr v l) (hN : N ≤ N') : DrawSM w gr N' wr v l := ⟨h.own, h.rd.more hN, h.grown⟩
theorem DrawSM.next {w wr w' : World} {gr N : Nat} {v v' : Value} {l m : List Cm} (h : DrawSM w gr N wr v l) (hgr : gr < w.heap.size) (ho : OwnM w' w.heap.size v' m) (hb : Below w.heap.size wr w') : DrawSM w gr N w' v' m :=
  ⟨ho, h.rd.below hb hgr, grown_below h.grown hb⟩
set_option maxHeartbeats 2000000 in
theorem l20Program_zero (gr N : Nat) (w : World) (h : Rd w gr N) (hN : N ≤ 100000) :
    Calls Tryd.prog 114 #[.pointer (some ⟨gr, 0, none⟩), .int .i64 0] w (DrewP0 w gr N) := by
  have hgl := h.lt
  have b0 : Below w.heap.size w (w.alloc (.cells #[] 49)) := (Below.refl _ _).alloc (Nat.le_refl _) _
  have st0 : DrawSM w gr N (w.alloc (.cells #[] 49)) (.slice (some ⟨w.heap.size, 0, none⟩) 0 0) [] := ⟨own_noneM w w.heap.size (Nat.le_refl _), h.below b0 hgl, World.grownBy_alloc _ _ _⟩
  clear b0
  go_enter Tryd.func114, Tryd.ntmps114
  go_wp2_with fail
  refine (pick_any _ _ _ _ st0.rd (by omega) (by omega)).mono ?_
  rintro e w1 ⟨r1, rfl, a1, c1, hr1, g1⟩
  have c1' : r1 < 41 := by omega
  have st1 := (st0.pick hgl hr1 g1).more (N' := N + 1 + 12 * (40 - r1.toNat)) (by omega)
  clear st0 hr1 g1 c1
  obtain ⟨q, rfl⟩ := Int.eq_ofNat_of_zero_le a1
  simp only [Int.toNat_natCast] at st1
  clear a1
  go_wp2_with fail
  go_loopw [5, 6] (fun v i wr => ∃ (k : Nat) (l : List Cm), k ≤ 40 ∧ i = .int .i64 k ∧ l.length + k ≤ 40 ∧ Hid (∀ o ∈ l, Hps.okCm o = true) ∧ DrawSM w gr (N + 1 + 12 * (40 - k)) wr v l) (fun _ i _ => (intOf i).toNat)
  case atStart => exact ⟨q, [], by omega, rfl, by simp; omega, Lib.hid (by simp), st1⟩
  case round =>
    clear st1
    obtain ⟨k, l, hk, rfl, hl, HL, st⟩ := hrel
    by_cases hk0 : 0 < k
    · have hk0' : (0 : Int) < k := by omega
      have S := Lib.hid st
      clear st
      go_wp2_with fail
      refine (l20Command_any _ _ 0 _ S.out.rd (by omega) (by omega) (by omega)).mono ?_
      rintro e w2 ⟨o, rfl, ho, -, hr2, g2⟩
      have st2 := (S.out.pick hgl hr2 g2).more (N' := N + 1 + 12 * (40 - (k - 1))) (by omega)
      have HO := Lib.hid (ho rfl)
      clear S hr2 g2 ho
      have hs4 := st2.grown.size
      have ow := World.ownsRow.alloc st2.own (.cells #[.int .i64 o.op, .int .i64 o.a, .int .i64 o.b, .int .i64 o.c] 49)
      have rr : MS (w2.alloc (.cells #[.int .i64 o.op, .int .i64 o.a, .int .i64 o.b, .int .i64 o.c] 49)) (w2.alloc (.cells #[.int .i64 o.op, .int .i64 o.a, .int .i64 o.b, .int .i64 o.c] 49)).heap.size (some ⟨w2.heap.size, 0, none⟩) 1 [o] := (own_oneM w2 o 0 (Nat.zero_le _)).reads
      have hln : l.length + 1 ≤ 1099511627776 := by omega
      go_wp2_with (at_builtin; refine wpList_appendM rfl (.tmp 14) (.tmp 17) rfl w.heap.size _ l rfl ow (some ⟨w2.heap.size, 0, none⟩) 1 1 _ [o] rfl rr hln (by simp; omega) ?_; intro v5 w5 o5 g5 s5)
      have bn : Below w.heap.size w2 w5 := ((Below.refl w.heap.size w2).alloc hs4 _).grown g5 (by simp; omega) (fun k hk => (World.ownsRow.lt st2.own k hk).1)
      have st5 := st2.next hgl o5 bn
      clear ow rr g5 s5 o5 bn st2
      go_roundw
      case rel => exact ⟨k - 1, l ++ [o], by omega, int_eq (by omega), by simp; omega, Lib.hid (by intro x hx; rcases List.mem_append.1 hx with hx | hx; exact HL.out x hx; rw [List.mem_singleton] at hx; rw [hx]; exact HO.out), st5⟩
      case measure => simp [intOf]; omega
    · obtain rfl : k = 0 := by omega
      have S := Lib.hid st
      have R := Lib.hid st.rd
      have hok := Lib.hid (Hps.okCms_iff.2 ⟨HL.out, by omega⟩)
      clear st HL
      go_wp2_with fail
      refine (odd_zero' _ _ _ R.out).mono ?_
      rintro e w' ⟨rfl, rfl⟩
      go_wp2_with fail
      go_ret
      exact ⟨_, l, rfl, S.out.own, hok.out, S.out.rd.more (by omega), S.out.grown⟩
end Go.Proofs.YthmddmddcdofaaaDoor

namespace Go.Proofs.YthmddmddcdofaaaDoor
open Go.RowKit
set_option maxRecDepth 100000
/-- a slice of one's own is cut short -/
theorem OwnM.cut {w : World} {base n c k : Nat} {A : Option Addr} {xs : List Cm} (h : OwnM w base (.slice A n c) xs) (hk : k ≤ n) : OwnM w base (.slice A k c) (xs.take k) := by
  have hl : (xs.take k).length = k := by rw [List.length_take, ← h.cap.1]; omega
  unfold OwnM
  rw [hl]
  refine ⟨by rw [flatM_length, hl], ?_⟩
  rcases h.2 with ⟨e, h0⟩ | ⟨g, cap, cur, e, hb, hh, hnc, hcap, hsz, hx⟩
  · injection e with e1 e2 e3
    subst e1 e3
    left
    have : k = 0 := by omega
    rw [this]
    exact ⟨rfl, rfl⟩
  · injection e with e1 e2 e3
    subst e1 e3
    right
    refine ⟨g, c, cur, rfl, hb, hh, by omega, hcap, hsz, ?_⟩
    rw [flatM_take, ← hx, List.take_take, Nat.min_eq_left (by omega)]
end Go.Proofs.YthmddmddcdofaaaDoor

namespace Go.Proofs.YthmddmddcdofaaaDoor
open Go.RowKit
set_option maxRecDepth 100000
/-- a heap whose blocks from lo on may be read in every later world that has left them alone -/
def HF (w : World) (lo : Nat) (A : Option Addr) (n : Nat) (R : Option Addr) (m : Nat) (h : Hp) : Prop :=
  ∀ w', w.heap.size ≤ w'.heap.size → (∀ j, lo ≤ j → j < w.heap.size → w'.heap[j]? = w.heap[j]?) → HS w' w'.heap.size A n R m h
theorem row_same {w w' : World} {base lo n : Nat} {e : TypeId} {s : Nat} {v : Value} {xs : List Value} (h : w.ownsRow base e s v n xs) (hl : lo ≤ base) (hb : ∀ j, lo ≤ j → j < w.heap.size → w'.heap[j]? = w.heap[j]?) : w'.ownsRow base e s v n xs := by
  refine ⟨h.1, ?_⟩
  rcases h.2 with h0 | ⟨g, cap, cur, e, hb', hh, hr⟩
  · exact .inl h0
  · exact .inr ⟨g, cap, cur, e, hb', (hb g (by omega) (Array.getElem?_eq_some_iff.1 hh).1).trans hh, hr⟩
theorem OwnHx.same {w w' : World} {base lo : Nat} {vc vr : Value} {rvs : List Value} {h : Hp} (o : OwnHx w base vc vr rvs h) (hl : lo ≤ base) (hb : ∀ j, lo ≤ j → j < w.heap.size → w'.heap[j]? = w.heap[j]?) : OwnHx w' base vc vr rvs h :=
  ⟨o.len, row_same o.row hl hb, fun k c v hc hv => row_same (o.refs k c v hc hv) hl hb, row_same o.roots hl hb, o.sep⟩
theorem OwnHx.hf {w : World} {base lo n c m d : Nat} {A R : Option Addr} {rvs : List Value} {h : Hp} (o : OwnHx w base (.slice A n c) (.slice R m d) rvs h) (hl : lo ≤ base) : HF w lo A n R m h := fun _ _ hb => (o.same hl hb).reads
theorem OwnHx.caps {w : World} {base n c m d : Nat} {A R : Option Addr} {rvs : List Value} {h : Hp} (o : OwnHx w base (.slice A n c) (.slice R m d) rvs h) : n = h.cs.length ∧ m = h.rt.length ∧ n ≤ c ∧ m ≤ d := by
  obtain ⟨A', c', R', d', e1, e2, h1, h2, _⟩ := o.form
  injection e1 with e1 e3 e4
  injection e2 with e5 e6 e7
  subst e3 e4 e6 e7
  exact ⟨rfl, rfl, h1, h2⟩
theorem OwnHx.rootAddr {w : World} {base m d : Nat} {vc : Value} {R : Option Addr} {rvs : List Value} {h : Hp} (o : OwnHx w base vc (.slice R m d) rvs h) (hm : 0 < m) : ∃ g, R = some ⟨g, 0, none⟩ ∧ base ≤ g ∧ g < w.heap.size := by
  obtain ⟨A', c', R', d', e1, e2, h1, h2, _, fR⟩ := o.form
  injection e2 with e5 e6 e7
  subst e5 e6 e7
  exact fR hm
theorem IS.drop1 {w : World} {B m : Nat} {g : Nat} {xs : List Int} (h : IS w B (some ⟨g, 0, none⟩) (m + 1) xs) : IS w B (some ⟨g, 1, none⟩) m (xs.drop 1) := by
  refine ⟨by rw [List.length_drop, h.1]; omega, fun h0 => ?_⟩
  obtain ⟨g', o', e, hb, hc⟩ := h.2 (by omega)
  injection e with e
  injection e with e1 e2
  subst e1 e2
  refine ⟨g, 1, rfl, hb, fun k x hx => ?_⟩
  rw [List.getElem?_drop] at hx
  have := hc (1 + k) x hx
  rwa [Nat.zero_add] at this
theorem HF.more {w : World} {lo lo' n m : Nat} {A R : Option Addr} {h : Hp} (H : HF w lo A n R m h) (hl : lo' ≤ lo) : HF w lo' A n R m h := fun w' hs hb => H w' hs fun j hj hk => hb j (by omega) hk
theorem HF.reads {w : World} {lo n m : Nat} {A R : Option Addr} {h : Hp} (H : HF w lo A n R m h) : HS w w.heap.size A n R m h := H w (Nat.le_refl _) fun _ _ _ => rfl
theorem HF.below {w w' : World} {lo n m B : Nat} {A R : Option Addr} {h : Hp} (H : HF w lo A n R m h) (hb : Below B w w') (hB : w.heap.size ≤ B) : HF w' lo A n R m h := fun w'' hs hh =>
  H w'' (Nat.le_trans hb.size hs) fun j hj hk => (hh j hj (Nat.lt_of_lt_of_le hk hb.size)).trans (hb.block j (by omega))
theorem HF.far {w w' : World} {lo n m gr : Nat} {A R : Option Addr} {h : Hp} (H : HF w lo A n R m h) (hg : w.grownBy w' (some gr)) (hl : gr < lo) : HF w' lo A n R m h := fun w'' hs hh =>
  H w'' (Nat.le_trans hg.size hs) fun j hj hk => (hh j hj (Nat.lt_of_lt_of_le hk hg.size)).trans (hg.block j hk (fun e => by injection e with e; omega))
/-- a heap that is drawn is small -/
def SmallH (h : Hp) : Prop := h.cs.length ≤ 41 ∧ h.rt.length ≤ 4 ∧ (∀ c ∈ h.cs, c.r.length ≤ 3 ∧ (-1 ≤ c.d ∧ c.d ≤ 100) ∧ ∀ x ∈ c.r, -2 ≤ x ∧ x ≤ 100) ∧ ∀ x ∈ h.rt, -2 ≤ x ∧ x ≤ 100
theorem small_valid {h : Hp} (hv : Hps.validH h = true) : SmallH h := by
  obtain ⟨h1, h2, h3, h4⟩ := Hps.valid_iff.1 hv
  refine ⟨by omega, by omega, fun c hc => ?_, fun x hx => ?_⟩
  · have ok := Hps.okCell_iff.1 (h1 c hc)
    refine ⟨ok.2.2.1, ⟨by omega, by omega⟩, fun x hx => ?_⟩
    have := Hps.okRef_lo (Hps.okRefs_iff.1 ok.2.2.2 x hx)
    omega
  · have := Hps.okRef_lo (Hps.okRefs_iff.1 h4 x hx)
    omega
theorem SmallH.snoc {h : Hp} {cl : Cl} (hs : SmallH h) (hn : h.cs.length ≤ 40) (h1 : cl.r.length ≤ 3) (h2 : -1 ≤ cl.d ∧ cl.d ≤ 100) (h3 : ∀ x ∈ cl.r, -2 ≤ x ∧ x ≤ 100) : SmallH ⟨h.cs ++ [cl], h.rt⟩ := by
  obtain ⟨_, s2, s3, s4⟩ := hs
  refine ⟨by simp; omega, s2, fun c hc => ?_, s4⟩
  rcases List.mem_append.1 hc with hc | hc
  · exact s3 c hc
  · rw [List.mem_singleton] at hc
    subst hc
    exact ⟨h1, h2, h3⟩
theorem SmallH.setRoot {h : Hp} {i : Nat} {x : Int} (hs : SmallH h) (hx : -2 ≤ x ∧ x ≤ 100) : SmallH ⟨h.cs, h.rt.set i x⟩ := by
  obtain ⟨s1, s2, s3, s4⟩ := hs
  refine ⟨s1, by simpa using s2, s3, fun y hy => ?_⟩
  rcases List.mem_or_eq_of_mem_set hy with hy | rfl
  · exact s4 y hy
  · exact hx
theorem SmallH.drop1 {h : Hp} (hs : SmallH h) : SmallH ⟨h.cs, h.rt.drop 1⟩ := by
  obtain ⟨s1, s2, s3, s4⟩ := hs
  exact ⟨s1, by simp; omega, s3, fun y hy => s4 y (List.mem_of_mem_drop hy)⟩
theorem Hps.mutate_valid {h : Hp} (hv : Hps.validH h = true) {k j t : Nat} {c c' : Cl} (hc : h.cs[k]? = some c) (hu : c.u = true) (hc' : h.cs[t]? = some c') (hu' : c'.u = true) : Hps.validH ⟨h.cs.set k ⟨c.u, c.d, c.r.set j (t : Int)⟩, h.rt⟩ = true := by
  have ok := Hps.okCell_iff.1 (Hps.valid_cell hv hc)
  have hm := Hps.used_set (c' := ⟨c.u, c.d, c.r.set j (t : Int)⟩) hc (fun h => h)
  refine Hps.set_cell_valid hv hc (fun h => h) (Hps.okCell_iff.2 ⟨.inl hu, ok.2.1, by simpa using ok.2.2.1, Hps.okRefs_mono hm (Hps.okRefs_set ok.2.2.2 ?_)⟩)
  exact Hps.okRef_iff.2 (.inr ⟨by omega, Hps.usedAt_iff.2 ⟨c', by simpa using hc', hu'⟩⟩)
/-- a heap has been drawn -/
def DrewH (w : World) (gr N : Nat) (n : Int) (e : Ending) (w' : World) : Prop :=
  ∃ (A : Option Addr) (nn c : Nat) (R : Option Addr) (m d : Nat) (h : Hp), e = .returned (heapV A nn c R m d) ∧ nn ≤ c ∧ m ≤ d ∧ HF w' w.heap.size A nn R m h ∧ (n = 0 → Hps.validH h = true) ∧ SmallH h ∧ Rd w' gr (N + 700) ∧ w.grownBy w' (some gr)
/-- while a heap is drawn: the heap in the box b, the reader in gr -/
structure HpSt (w wr : World) (gr N b : Nat) (vc vr : Value) (rvs : List Value) (h : Hp) : Prop where
  own : OwnHx wr (w.heap.size + 1) vc vr rvs h
  apart : Apart (some b) (vc :: vr :: rvs)
  box : Rw wr b 26 #[vc, vr]
  res : Rw wr w.heap.size 26 #[.slice none 0 0, .slice none 0 0]
  rd : Rd wr gr N
  grown : w.grownBy wr (some gr)
  lo : w.heap.size + 1 ≤ b
  old : gr < w.heap.size
section
variable {w wr w1 : World} {gr N b g c d i k : Nat} {vc vr : Value} {rvs : List Value} {h : Hp} {cl : Cl}
theorem HpSt.pick {N' : Nat} (S : HpSt w wr gr N b vc vr rvs h) (hr : Rd w1 gr N') (hg : wr.grownBy w1 (some gr)) : HpSt w w1 gr N' b vc vr rvs h := by
  have h1 := S.lo
  have h2 := S.old
  exact ⟨S.own.far hg (S.own.apart_below (by omega)), S.apart, S.box.far hg (fun e => by injection e with e; omega), S.res.far hg (fun e => by injection e with e; omega), hr, World.grownBy.trans S.grown hg, h1, h2⟩
theorem HpSt.more {N' : Nat} (S : HpSt w wr gr N b vc vr rvs h) (hN : N ≤ N') : HpSt w wr gr N' b vc vr rvs h := ⟨S.own, S.apart, S.box, S.res, S.rd.more hN, S.grown, S.lo, S.old⟩
theorem HpSt.up (S : HpSt w wr gr N b vc vr rvs h) (hw : Below wr.heap.size wr w1) : HpSt w w1 gr N b vc vr rvs h :=
  ⟨S.own.below hw (Nat.le_refl _), S.apart, S.box.keep hw S.box.lt, S.res.keep hw S.res.lt, S.rd.below hw S.rd.lt, grown_below S.grown (hw.mono S.grown.size), S.lo, S.old⟩
theorem HpSt.alloc (S : HpSt w wr gr N b vc vr rvs h) (o : Obj) : HpSt w (wr.alloc o) gr N b vc vr rvs h := S.up ((Below.refl _ _).alloc (Nat.le_refl _) _)
theorem HpSt.into (S : HpSt w wr gr N b vc vr rvs h) {v : Value} (hv : v ∈ vc :: vr :: rvs) (hg : v.ownBlock = some g) {rvs' : List Value} {h' : Hp} (u : Value)
    (ho : OwnHx (wr.setCell ⟨g, i, none⟩ u) (w.heap.size + 1) vc vr rvs' h') (ha : ∀ v ∈ rvs', v.ownBlock = none ∨ v.ownBlock ≠ some b) : HpSt w (wr.setCell ⟨g, i, none⟩ u) gr N b vc vr rvs' h' := by
  have h1 := S.own.blocks hv hg
  have h3 := S.old
  have h2 : b ≠ g := by
    rcases S.apart v hv with e | e
    · rw [hg] at e; cases e
    · intro e'; rw [hg] at e; exact e (by rw [e'])
  have hb : Below g wr (wr.setCell ⟨g, i, none⟩ u) := (Below.refl g wr).setCell (p := ⟨g, i, none⟩) (Nat.le_refl _) u
  refine ⟨ho, ?_, S.box.other h2 u, S.res.other (by omega) u, S.rd.below hb (by omega), grown_below S.grown (hb.mono (by omega)), S.lo, h3⟩
  intro x hx
  simp only [List.mem_cons] at hx
  rcases hx with rfl | rfl | hx
  · exact S.apart x (by simp)
  · exact S.apart x (by simp)
  · exact ha x hx
theorem HpSt.root {m : Nat} (S : HpSt w wr gr N b vc (.slice (some ⟨g, 0, none⟩) m d) rvs h) (hm : h.rt.length = m) (x : Int) : HpSt w (wr.setCell ⟨g, i, none⟩ (.int .i64 x)) gr N b vc (.slice (some ⟨g, 0, none⟩) m d) rvs ⟨h.cs, h.rt.set i x⟩ := by
  subst hm
  exact S.into (v := .slice (some ⟨g, 0, none⟩) h.rt.length d) (by simp) rfl _ (S.own.root x) fun v hv => S.apart v (by simp [hv])
theorem HpSt.ref1 {m : Nat} (S : HpSt w wr gr N b vc vr rvs h) (hc : h.cs[k]? = some cl) (hv : rvs[k]? = some (.slice (some ⟨g, 0, none⟩) m d)) (hm : cl.r.length = m) (x : Int) : HpSt w (wr.setCell ⟨g, i, none⟩ (.int .i64 x)) gr N b vc vr rvs ⟨h.cs.set k ⟨cl.u, cl.d, cl.r.set i x⟩, h.rt⟩ := by
  subst hm
  exact S.into (v := .slice (some ⟨g, 0, none⟩) cl.r.length d) (by simp [List.mem_of_getElem? hv]) rfl _ (S.own.ref1 hc hv x) fun v hv => S.apart v (by simp [hv])
theorem HpSt.snoc {v9 v8 : Value} (S : HpSt w wr gr N b vc vr rvs h) (hG : wr.grownBy w1 vc.ownBlock)
    (o9 : w1.ownsRow (w.heap.size + 1) 40 3 v9 (h.cs.length + 1) (flatC h.cs rvs ++ [.bool cl.u, .int .i64 cl.d, v8])) (q : v9.ownBlock = vc.ownBlock ∨ v9.ownBlock = some wr.heap.size)
    (o8 : OwnI wr (w.heap.size + 1) v8 cl.r) (hap : ∀ v ∈ vc :: vr :: rvs, v8.ownBlock = none ∨ v8.ownBlock ≠ v.ownBlock) (h8b : v8.ownBlock ≠ some b) :
    HpSt w (w1.setCell ⟨b, 0, none⟩ v9) gr N b v9 vr (rvs ++ [v8]) ⟨h.cs ++ [cl], h.rt⟩ := by
  have hn := S.own.snoc hG o9 q o8 hap
  have hlo := S.lo
  have hbl := S.box.lt
  have hold := S.old
  have hvcb : some b ≠ vc.ownBlock := by
    rcases S.apart vc (by simp) with e | e
    · rw [e]; simp
    · exact fun h => e h.symm
  have ap : Apart (some b) (v9 :: vr :: (rvs ++ [v8])) := by
    intro v hv
    simp only [List.mem_cons, List.mem_append, List.not_mem_nil, or_false] at hv
    rcases hv with rfl | rfl | hv | rfl
    · right
      rcases q with e | e
      · rw [e]; exact fun h => hvcb h.symm
      · rw [e]; intro e'; injection e' with e'; omega
    · exact S.apart v (by simp)
    · exact S.apart v (by simp [hv])
    · exact .inr h8b
  have hB1 : Below (w.heap.size + 1) wr w1 := (Below.refl _ _).grown hG (by omega) (fun kk hk => (S.own.blocks (v := vc) (by simp) hk).1)
  have hB : Below (w.heap.size + 1) wr (w1.setCell ⟨b, 0, none⟩ v9) := hB1.setCell (p := ⟨b, 0, none⟩) hlo v9
  exact ⟨hn.far (put_any w1 b 0 v9) ap, ap, (Rw.far S.box hG hvcb).put 0 v9, S.res.keep hB (by omega), S.rd.below hB (by omega), grown_below S.grown (hB.mono (by omega)), hlo, hold⟩
/-- the end: the result's box is written -/
theorem HpSt.fin {n m : Nat} {A R : Option Addr} (S : HpSt w wr gr N b (.slice A n c) (.slice R m d) rvs h) (u u' : Value) :
    HF ((wr.setCell ⟨w.heap.size, 0, none⟩ u).setCell ⟨w.heap.size, 1, none⟩ u') w.heap.size A n R m h ∧ Rd ((wr.setCell ⟨w.heap.size, 0, none⟩ u).setCell ⟨w.heap.size, 1, none⟩ u') gr N ∧ w.grownBy ((wr.setCell ⟨w.heap.size, 0, none⟩ u).setCell ⟨w.heap.size, 1, none⟩ u') (some gr) := by
  have ap : Apart (some w.heap.size) (.slice A n c :: .slice R m d :: rvs) := S.own.apart_below (by omega)
  have hB : Below w.heap.size wr ((wr.setCell ⟨w.heap.size, 0, none⟩ u).setCell ⟨w.heap.size, 1, none⟩ u') := ((Below.refl w.heap.size wr).setCell (p := ⟨w.heap.size, 0, none⟩) (Nat.le_refl _) u).setCell (p := ⟨w.heap.size, 1, none⟩) (Nat.le_refl _) u'
  exact ⟨((S.own.far (put_any wr _ 0 u) ap).far (put_any _ _ 1 u') ap).hf (by omega), S.rd.below hB S.old, grown_below S.grown hB⟩
theorem HpSt.boxed (S : HpSt w wr gr N b vc vr rvs h) (u : Value) : OwnHx (wr.setCell ⟨b, 1, none⟩ u) (w.heap.size + 1) vc vr rvs h ∧ Rw (wr.setCell ⟨b, 1, none⟩ u) b 26 #[vc, u] ∧ Rw (wr.setCell ⟨b, 1, none⟩ u) w.heap.size 26 #[.slice none 0 0, .slice none 0 0] ∧ Rd (wr.setCell ⟨b, 1, none⟩ u) gr N ∧ w.grownBy (wr.setCell ⟨b, 1, none⟩ u) (some gr) := by
  have h1 := S.lo
  have h2 := S.old
  have hB : Below b wr (wr.setCell ⟨b, 1, none⟩ u) := (Below.refl b wr).setCell (p := ⟨b, 1, none⟩) (Nat.le_refl _) u
  exact ⟨S.own.far (put_any wr b 1 u) S.apart, S.box.put 1 u, S.res.keep hB (by omega), S.rd.below hB (by omega), grown_below S.grown (hB.mono (by omega))⟩
theorem fin_cut {n m : Nat} {A : Option Addr} (hold : gr < w.heap.size) (o : OwnHx wr (w.heap.size + 1) (.slice A n c) (.slice (some ⟨g, 0, none⟩) (m + 1) d) rvs h) (rd : Rd wr gr N) (gb : w.grownBy wr (some gr)) (u u' : Value) :
    HF ((wr.setCell ⟨w.heap.size, 0, none⟩ u).setCell ⟨w.heap.size, 1, none⟩ u') w.heap.size A n (some ⟨g, 1, none⟩) m ⟨h.cs, h.rt.drop 1⟩ ∧ Rd ((wr.setCell ⟨w.heap.size, 0, none⟩ u).setCell ⟨w.heap.size, 1, none⟩ u') gr N ∧ w.grownBy ((wr.setCell ⟨w.heap.size, 0, none⟩ u).setCell ⟨w.heap.size, 1, none⟩ u') (some gr) := by
  have ap : Apart (some w.heap.size) (.slice A n c :: .slice (some ⟨g, 0, none⟩) (m + 1) d :: rvs) := o.apart_below (by omega)
  have hB : Below w.heap.size wr ((wr.setCell ⟨w.heap.size, 0, none⟩ u).setCell ⟨w.heap.size, 1, none⟩ u') := ((Below.refl w.heap.size wr).setCell (p := ⟨w.heap.size, 0, none⟩) (Nat.le_refl _) u).setCell (p := ⟨w.heap.size, 1, none⟩) (Nat.le_refl _) u'
  have H := ((o.far (put_any wr _ 0 u) ap).far (put_any _ _ 1 u') ap).hf (lo := w.heap.size) (by omega)
  exact ⟨fun w' hs hb => ⟨(H w' hs hb).cells, (H w' hs hb).roots.drop1⟩, rd.below hB hold, grown_below gb hB⟩
/-- a new heap in the box -/
theorem HpSt.next {w5 : World} {vc' vr' : Value} {h' : Hp} (S : HpSt w wr gr N b vc vr rvs h) (B : Below wr.heap.size wr w5) (o : OwnH w5 wr.heap.size vc' vr' h') :
    ∃ rvs', HpSt w ((w5.setCell ⟨b, 0, none⟩ vc').setCell ⟨b, 1, none⟩ vr') gr N b vc' vr' rvs' h' := by
  have hb := S.box.lt
  have hlo := S.lo
  have hold := S.old
  obtain ⟨rvs', own⟩ := o
  have ap : Apart (some b) (vc' :: vr' :: rvs') := own.apart_below hb
  have hB0 : Below b w5 ((w5.setCell ⟨b, 0, none⟩ vc').setCell ⟨b, 1, none⟩ vr') := ((Below.refl b w5).setCell (p := ⟨b, 0, none⟩) (Nat.le_refl _) vc').setCell (p := ⟨b, 1, none⟩) (Nat.le_refl _) vr'
  have hB : Below b wr ((w5.setCell ⟨b, 0, none⟩ vc').setCell ⟨b, 1, none⟩ vr') := (B.mono (by omega)).trans hB0
  exact ⟨rvs', ((own.far (put_any w5 b 0 vc') ap).far (put_any _ b 1 vr') ap).base (by have := S.grown.size; omega), ap, ((S.box.keep B hb).put 0 vc').put 1 vr', S.res.keep hB (by omega), S.rd.below hB (by omega), grown_below S.grown (hB.mono (by omega)), hlo, hold⟩
end
set_option maxRecDepth 100000 in
set_option maxHeartbeats 16000000 in
theorem l20Heap_any (gr N : Nat) (n : Int) (w : World) (h : Rd w gr N) (hN : N ≤ 10000) (hn0 : 0 ≤ n) (hn : n ≤ 1000) :
    Calls Tryd.prog 56 #[.pointer (some ⟨gr, 0, none⟩), .int .i64 n] w (DrewH w gr N n) := by
  have hgl := h.lt
  have h0 : Rd (w.alloc (.cells #[.slice none 0 0, .slice none 0 0] 26)) gr N := h.below ((Below.refl w.heap.size w).alloc (Nat.le_refl _) _) hgl
  have r0 := Rw.new w 26 #[.slice none 0 0, .slice none 0 0]
  have g0 : w.grownBy (w.alloc (.cells #[.slice none 0 0, .slice none 0 0] 26)) (some gr) := World.grownBy_alloc _ _ _
  have z0 : w.heap.size + 1 = (w.alloc (.cells #[.slice none 0 0, .slice none 0 0] 26)).heap.size := by simp
  go_enter Tryd.func56, Tryd.ntmps56
  go_upto_region 1 with fail
  generalize w.alloc (.cells #[.slice none 0 0, .slice none 0 0] 26) = w0 at h0 r0 g0 z0 ⊢
  have HZ := Lib.hid z0
  clear z0
  go_wp2_with fail
  refine (l20Program_zero gr N _ h0 (by omega)).mono ?_
  rintro e w1 ⟨v, l, rfl, om, hok, hr1, g1⟩
  obtain ⟨A0, c0, rfl, -⟩ := om.form
  have hll := (Hps.okCms_iff.1 hok).2
  have rm := om.reads
  have hvl := Hps.runH_valid hok
  clear om hok h
  go_wp2_with fail
  refine (mRunHeap_any A0 l.length c0 l _ rm (by omega)).mono ?_
  rintro e w2 ⟨vc, vr, rfl, ⟨rvs, own⟩, b2⟩
  have s1 : w.heap.size + 1 ≤ w1.heap.size := by have := HZ.out; have := g1.size; omega
  have hq := Rw.new w2 26 #[vc, vr]
  have r1 := (r0.far g1 (fun e => by injection e with e; omega)).keep b2 (by omega)
  have bA : Below w2.heap.size w2 (w2.alloc (.cells #[vc, vr] 26)) := (Below.refl _ _).alloc (Nat.le_refl _) _
  have S : HpSt w (w2.alloc (.cells #[vc, vr] 26)) gr (N + 600) w2.heap.size vc vr rvs (Hps.runH l) :=
    ⟨(OwnHx.base (base' := w.heap.size + 1) own s1).below bA (Nat.le_refl _), own.apart_new (Nat.le_refl _), hq, r1.alloc _, (hr1.below b2 hr1.lt).below bA (by have := b2.size; omega), grown_below (World.grownBy.trans g0 g1) ((b2.mono (by omega)).trans (bA.mono (by have := b2.size; omega))), by have := b2.size; omega, hgl⟩
  obtain ⟨Ac, cc, Rc, dc, rfl, rfl, -⟩ := own.form
  obtain ⟨hh, ehh⟩ : ∃ hh, Hps.runH l = hh := ⟨_, rfl⟩
  rw [ehh] at S hvl ⊢
  have hvs := Hps.valid_iff.1 hvl
  obtain ⟨nn, hnn⟩ : ∃ nn, hh.cs.length = nn := ⟨_, rfl⟩
  have hn40 : nn ≤ 40 := by rw [← hnn]; exact hvs.2.1
  have hm4 := hvs.2.2.1
  rw [hnn, hm4] at S ⊢
  have HN := Lib.hid hnn
  have HM := Lib.hid hm4
  have HV := Lib.hid hvl
  clear hvs hnn hm4 hvl
  clear own ehh hq r1 bA s1 h0 r0 g0 HZ hr1 g1 rm hll hgl b2
  go_upto_region 2 with fail
  generalize w2.alloc (.cells #[.slice Ac nn cc, .slice Rc 4 dc] 26) = w3 at S ⊢
  generalize w2.heap.size = b at S ⊢
  go_wp2_with fail
  refine (pick_any _ _ _ _ S.rd (by omega) (by omega)).mono ?_
  rintro e w4 ⟨r, rfl, ar, cr, hr4, g4⟩
  replace S := S.pick hr4 g4
  clear hr4 g4 w3 w2 w1 w0
  go_upto_if 14 with fail
  go_cut [] from 9 (fun wc => ∃ (A1 : Option Addr) (n1 c1 : Nat) (R1 : Option Addr) (d1 : Nat) (rvs1 : List Value) (h1 : Hp), n1 ≤ 40 ∧ Hid (h1.cs.length = n1) ∧ Hid (h1.rt.length = 4) ∧ Hid (Hps.validH h1 = true) ∧ HpSt w wc gr (N + 601) b (.slice A1 n1 c1) (.slice R1 4 d1) rvs1 h1)
  case first =>
    by_cases hr0 : r = 0
    · have hs := S.own.reads
      have x0 : w4.cell? ⟨b, 0, none⟩ = some (.slice Ac nn cc) := S.box.cell 0
      have x1 : w4.cell? ⟨b, 1, none⟩ = some (.slice Rc 4 dc) := S.box.cell 1
      have HV2 := Lib.hid (Hps.collectH_valid HV.out)
      have SS := Lib.hid S
      subst hr0
      clear S ar cr
      go_wp2_with fail
      refine (mCollectSweep_any _ _ _ _ _ _ hh _ hs (by omega) (by omega)).mono ?_
      rintro e w5 ⟨vc, vr, rfl, oh, b5⟩
      obtain ⟨rvs', SN⟩ := SS.out.next b5 oh
      have bx := SS.out.box.keep b5 SS.out.box.lt
      obtain ⟨h2, eh2⟩ : ∃ h2, (Hps.collectH hh).1 = h2 := ⟨_, rfl⟩
      rw [eh2] at SN oh HV2
      have hvs := Hps.valid_iff.1 HV2.out
      obtain ⟨A2, c2, R2, d2, rfl, rfl, -⟩ := oh.form
      obtain ⟨n2, hn2⟩ : ∃ n2, h2.cs.length = n2 := ⟨_, rfl⟩
      have hn40' : n2 ≤ 40 := by rw [← hn2]; exact hvs.2.1
      have hm4' := hvs.2.2.1
      rw [hn2, hm4'] at SN ⊢
      have HN2 := Lib.hid hn2
      have HM2 := Lib.hid hm4'
      have y0 : w5.cell? ⟨b, 0, none⟩ = some (.slice Ac nn cc) := bx.cell 0
      have y1 : w5.cell? ⟨b, 1, none⟩ = some (.slice Rc 4 dc) := bx.cell 1
      have y2 : w5.frozen? ⟨b, 0, none⟩ = false := bx.frozen 0
      have y3 : w5.frozen? ⟨b, 1, none⟩ = false := bx.frozen 1
      have SH := Lib.hid SN
      clear oh eh2 bx hs x0 x1 b5 hvs hn2 hm4' SN
      go_wp2_with fail
      go_meet
      case rel => exact ⟨A2, n2, c2, R2, d2, rvs', h2, hn40', HN2, HM2, HV2, SH.out⟩
    · go_wp2_with fail
      go_meet
      case rel => exact ⟨Ac, nn, cc, Rc, dc, rvs, hh, hn40, HN, HM, HV, S⟩
  case rest =>
    clear S HV HN HM hn40 ar cr
    obtain ⟨A1, n1, c1, R1, d1, rvs1, h1, hn1, HN1, HM1, HV1, S⟩ := hcut
    clear hh rvs Ac cc Rc dc nn
    go_wp2_with fail
    refine (pick_any _ _ _ _ S.rd (by omega) (by omega)).mono ?_
    rintro e w5 ⟨r5, rfl, ar, cr, hr5, g5⟩
    replace S := S.pick hr5 g5
    have cr' : r5 < 6 := by omega
    obtain ⟨q, rfl⟩ := Int.eq_ofNat_of_zero_le ar
    clear hr5 g5 wc ar cr w4
    replace S := S.more (N' := N + 602 + 3 * (5 - q)) (by omega)
    go_upto_block 0 with fail
    go_cut [] from 9 (fun wc => ∃ (A1 : Option Addr) (nn c1 : Nat) (R1 : Option Addr) (d1 : Nat) (rvs1 : List Value) (h1 : Hp), nn ≤ 40 ∧ Hid (h1.cs.length = nn) ∧ Hid (h1.rt.length = 4) ∧ Hid (Hps.validH h1 = true) ∧ HpSt w wc gr (N + 617) b (.slice A1 nn c1) (.slice R1 4 d1) rvs1 h1)
    case first =>
      go_wp2_with fail
      go_loopw [6, 7, 8] (fun u6 u7 u8 wr => ∃ (k : Nat) (A1 : Option Addr) (nn c1 : Nat) (R1 : Option Addr) (d1 : Nat) (rvs1 : List Value) (h1 : Hp), k ≤ 5 ∧ u6 = .int .i64 k ∧ nn ≤ 40 ∧ Hid (h1.cs.length = nn) ∧ Hid (h1.rt.length = 4) ∧ Hid (Hps.validH h1 = true) ∧ HpSt w wr gr (N + 602 + 3 * (5 - k)) b (.slice A1 nn c1) (.slice R1 4 d1) rvs1 h1) (fun u6 _ _ _ => (intOf u6).toNat)
      case atStart => exact ⟨q, A1, n1, c1, R1, d1, rvs1, h1, by omega, rfl, hn1, HN1, HM1, HV1, S⟩
      case round =>
        clear S HN1 HM1 HV1 hn1 h1 rvs1 A1 c1 R1 d1 n1
        obtain ⟨k, A1, nn, c1, R1, d1, rvs1, h1, hk, rfl, hn40, HN, HM, HV, S⟩ := hrel
        have x0 : wr.cell? ⟨b, 0, none⟩ = some (.slice A1 nn c1) := S.box.cell 0
        have x1 : wr.cell? ⟨b, 1, none⟩ = some (.slice R1 4 d1) := S.box.cell 1
        by_cases hk0 : 0 < k
        · have hk0' : (0 : Int) < k := by omega
          by_cases hne : 0 < nn
          · have hne' : (0 : Int) < nn := by omega
            go_wp2_with fail
            refine (pick_any _ _ _ _ S.rd (by omega) (by omega)).mono ?_
            rintro e w5 ⟨i1, rfl, a1, cr1, hr1, g1⟩
            replace S := S.pick hr1 g1
            obtain ⟨ka, rfl⟩ := Int.eq_ofNat_of_zero_le a1
            have hka : ka < nn := by omega
            have x0' : w5.cell? ⟨b, 0, none⟩ = some (.slice A1 nn c1) := S.box.cell 0
            have x1' : w5.cell? ⟨b, 1, none⟩ = some (.slice R1 4 d1) := S.box.cell 1
            clear hr1 g1 a1 cr1 x0 x1
            go_wp2_with fail
            refine (pick_any _ _ _ _ S.rd (by omega) (by omega)).mono ?_
            rintro e w6 ⟨i2, rfl, a2, cr2, hr2, g2⟩
            replace S := S.pick hr2 g2
            obtain ⟨kt, rfl⟩ := Int.eq_ofNat_of_zero_le a2
            have hkt : kt < nn := by omega
            have x0 : w6.cell? ⟨b, 0, none⟩ = some (.slice A1 nn c1) := S.box.cell 0
            have x1 : w6.cell? ⟨b, 1, none⟩ = some (.slice R1 4 d1) := S.box.cell 1
            clear hr2 g2 a2 cr2 x0' x1'
            obtain ⟨ca, hca⟩ : ∃ ca, h1.cs[ka]? = some ca := ⟨_, List.getElem?_eq_getElem (by rw [HN.out]; exact hka)⟩
            obtain ⟨ct, hct⟩ : ∃ ct, h1.cs[kt]? = some ct := ⟨_, List.getElem?_eq_getElem (by rw [HN.out]; exact hkt)⟩
            obtain ⟨gc, va, e1, hgc1, hgc2, hra, hoa, d0, d1', d2, fzc⟩ := S.own.cell_at hca
            obtain ⟨gc', vt, e2, -, -, -, -, d0', -, -, -⟩ := S.own.cell_at hct
            subst e1
            injection e2 with e2
            injection e2 with e2
            subst e2
            obtain ⟨Av, cv, rfl, fv⟩ := hoa.form
            obtain ⟨mr, hmr⟩ : ∃ mr, ca.r.length = mr := ⟨_, rfl⟩
            have hmr3 : mr ≤ 3 := by rw [← hmr]; exact (Hps.okCell_iff.1 (Hps.valid_cell HV.out hca)).2.2.1
            rw [hmr] at d2 hra hoa fv
            have HA := Lib.hid hca
            have HT := Lib.hid hct
            have HR := Lib.hid hra
            have HL := Lib.hid hmr
            have hka' : (ka : Int) < nn := by omega
            have hkt' : (kt : Int) < nn := by omega
            clear hca hct hra hmr d1' hgc2 fzc hoa
            have SS := Lib.hid (S.more (N' := N + 602 + 3 * (5 - (k - 1))) (by omega))
            have SR := Lib.hid S
            clear S
            cases hua : ca.u
            · rw [hua] at d0
              go_wp2_with fail
              go_roundw
              case rel => exact ⟨k - 1, _, nn, c1, R1, d1, rvs1, h1, by omega, int_eq (by omega), hn40, HN, HM, HV, SS.out⟩
              case measure => simp [intOf]; omega
            rw [hua] at d0
            cases hut : ct.u
            · rw [hut] at d0'
              go_wp2_with fail
              go_roundw
              case rel => exact ⟨k - 1, _, nn, c1, R1, d1, rvs1, h1, by omega, int_eq (by omega), hn40, HN, HM, HV, SS.out⟩
              case measure => simp [intOf]; omega
            rw [hut] at d0'
            by_cases hmz : 0 < mr
            case neg =>
              obtain rfl : mr = 0 := by omega
              go_wp2_with fail
              go_roundw
              case rel => exact ⟨k - 1, _, nn, c1, R1, d1, rvs1, h1, by omega, int_eq (by omega), hn40, HN, HM, HV, SS.out⟩
              case measure => simp [intOf]; omega
            obtain ⟨gv, rfl, hgv1, hgv2⟩ := fv hmz
            have hmz' : (0 : Int) < mr := by omega
            have HUA := Lib.hid hua
            have HUT := Lib.hid hut
            have hlo := SR.out.lo
            have hold := SR.out.old
            clear hua hut fv SS
            go_wp2_with fail
            refine wp_region_inv (by kernel_rfl) (by kernel_rfl) (fun L ac ww => ∃ t66 t67 t68 t69 t70 t71 t72 t73 t74 t75 t76 t77 t78 t79 t80 t81 t82 : Value, ac = { tmps := #[Value.pointer (some { block := gr, off := 0 }), Value.int IntKind.i64 n, undef, undef, Value.pointer (some { block := w.heap.size, off := 0 }), Value.pointer (some { block := b, off := 0 }), Value.int IntKind.i64 ↑k, Value.int IntKind.i64 ↑ka, Value.int IntKind.i64 ↑kt, u9, u10, u11, u12, u13, u14, u15, u16, u17, u18, u19, Value.pointer (some { block := gr, off := 0 }), Value.int IntKind.i64 ↑q, Value.int IntKind.i64 ↑k, Value.bool true, Value.bool true, Value.pointer (some { block := b, off := 0 }), Value.slice (some { block := gc, off := 0 }) nn c1, Value.int IntKind.i64 ↑nn, Value.bool true, Value.bool true, u30, u31, Value.pointer (some { block := gr, off := 0 }), Value.pointer (some { block := b, off := 0 }), Value.slice (some { block := gc, off := 0 }) nn c1, Value.int IntKind.i64 ↑nn, Value.int IntKind.i64 ↑ka, Value.pointer (some { block := gr, off := 0 }), Value.pointer (some { block := b, off := 0 }), Value.slice (some { block := gc, off := 0 }) nn c1, Value.int IntKind.i64 ↑nn, Value.int IntKind.i64 ↑kt, Value.pointer (some { block := b, off := 0 }), Value.slice (some { block := gc, off := 0 }) nn c1, Value.int IntKind.i64 ↑ka, Value.pointer (some { block := gc, off := ka * 3 }), Value.pointer (some { block := gc, off := ka * 3 }), Value.bool true, Value.bool true, Value.pointer (some { block := b, off := 0 }), Value.slice (some { block := gc, off := 0 }) nn c1, Value.int IntKind.i64 ↑kt, Value.pointer (some { block := gc, off := kt * 3 }), Value.pointer (some { block := gc, off := kt * 3 }), Value.bool true, Value.bool true, Value.bool true, Value.pointer (some { block := b, off := 0 }), Value.slice (some { block := gc, off := 0 }) nn c1, Value.int IntKind.i64 ↑ka, Value.pointer (some { block := gc, off := ka * 3 }), Value.pointer (some { block := gc, off := ka * 3 + 2 }), Value.slice (some { block := gv, off := 0 }) mr cv, Value.int IntKind.i64 ↑mr, Value.bool true, Value.bool true, t66, t67, t68, t69, t70, t71, t72, t73, t74, t75, t76, t77, t78, t79, t80, t81, t82, u83, u84, u85, u86, u87, u88, u89, u90, u91, u92, u93, u94, u95, u96, u97, u98, u99, u100, u101, u102, u103, u104, u105, u106, u107, u108, u109, u110, u111, u112, u113, u114, u115, u116, u117, u118, u119, u120, u121, u122, u123, u124, u125, u126, u127, u128, u129, u130, u131, u132, u133, u134, u135, u136, u137, u138, u139, u140, u141], defers := [] } ∧ (L 17 = false → Rd ww gr (N + 602 + 3 * (5 - k) + 1 + 1 + (L 14).toNat) ∧ w6.grownBy ww (some gr)) ∧ (L 17 = true → ∀ q, q < 17 → L q = true) ∧ (L 0 = true → t66 = (.pointer (some ⟨b, 0, none⟩))) ∧ (L 1 = true → t67 = (.slice (some ⟨gc, 0, none⟩) nn c1)) ∧ (L 2 = true → t68 = .int .i64 ka) ∧ (L 3 = true → t69 = (.pointer (some ⟨gc, ka * 3, none⟩))) ∧ (L 4 = true → t70 = (.pointer (some ⟨gc, ka * 3 + 2, none⟩))) ∧ (L 5 = true → t71 = (.slice (some ⟨gv, 0, none⟩) mr cv)) ∧ (L 6 = true → t72 = (.pointer (some ⟨gr, 0, none⟩))) ∧ (L 7 = true → t73 = (.pointer (some ⟨b, 0, none⟩))) ∧ (L 8 = true → t74 = (.slice (some ⟨gc, 0, none⟩) nn c1)) ∧ (L 9 = true → t75 = .int .i64 ka) ∧ (L 10 = true → t76 = (.pointer (some ⟨gc, ka * 3, none⟩))) ∧ (L 11 = true → t77 = (.pointer (some ⟨gc, ka * 3 + 2, none⟩))) ∧ (L 12 = true → t78 = (.slice (some ⟨gv, 0, none⟩) mr cv)) ∧ (L 13 = true → t79 = .int .i64 mr) ∧ (L 14 = true → ∃ j : Nat, t80 = .int .i64 j ∧ j < mr) ∧ (L 15 = true → t81 = .int .i64 kt) ∧ (L 16 = true → ∃ j : Nat, t82 = .pointer (some ⟨gv, j, none⟩) ∧ j < mr) ∧ (L 17 = true → ∃ (j : Nat) (w1 : World), j < mr ∧ ww = w1.setCell ⟨gv, j, none⟩ (.int .i64 kt) ∧ Rd w1 gr (N + 602 + 3 * (5 - k) + 1 + 1 + 1) ∧ w6.grownBy w1 (some gr))) ?h0 ?hstep ?hdone
            case h0 => exact ⟨_, _, _, _, _, _, _, _, _, _, _, _, _, _, _, _, _, rfl, fun _ => ⟨by simpa using SR.out.rd.below (Below.refl _ _).drew SR.out.rd.lt, grown_below (World.grownBy.refl _ _) (Below.refl _ _).drew⟩, fun h => absurd h Bool.false_ne_true, (fun h => absurd h Bool.false_ne_true), (fun h => absurd h Bool.false_ne_true), (fun h => absurd h Bool.false_ne_true), (fun h => absurd h Bool.false_ne_true), (fun h => absurd h Bool.false_ne_true), (fun h => absurd h Bool.false_ne_true), (fun h => absurd h Bool.false_ne_true), (fun h => absurd h Bool.false_ne_true), (fun h => absurd h Bool.false_ne_true), (fun h => absurd h Bool.false_ne_true), (fun h => absurd h Bool.false_ne_true), (fun h => absurd h Bool.false_ne_true), (fun h => absurd h Bool.false_ne_true), (fun h => absurd h Bool.false_ne_true), (fun h => absurd h Bool.false_ne_true), (fun h => absurd h Bool.false_ne_true), (fun h => absurd h Bool.false_ne_true), (fun h => absurd h Bool.false_ne_true)⟩
            case hstep =>
              rintro L ac ww i o ho hL hd ⟨t66, t67, t68, t69, t70, t71, t72, t73, t74, t75, t76, t77, t78, t79, t80, t81, t82, rfl, I0, I1, f0, f1, f2, f3, f4, f5, f6, f7, f8, f9, f10, f11, f12, f13, f14, f15, f16, f17⟩
              have hi : i < 18 := (Array.getElem?_eq_some_iff.1 ho).1
              obtain rfl | rfl | rfl | rfl | rfl | rfl | rfl | rfl | rfl | rfl | rfl | rfl | rfl | rfl | rfl | rfl | rfl | rfl : i = 0 ∨ i = 1 ∨ i = 2 ∨ i = 3 ∨ i = 4 ∨ i = 5 ∨ i = 6 ∨ i = 7 ∨ i = 8 ∨ i = 9 ∨ i = 10 ∨ i = 11 ∨ i = 12 ∨ i = 13 ∨ i = 14 ∨ i = 15 ∨ i = 16 ∨ i = 17 := by omega
              · obtain rfl := Option.some.inj ho
                have h17 : L 17 = false := by
                  cases e : L 17
                  · rfl
                  · exact absurd (I1 e 0 (by decide)) (by rw [hL]; simp)
                obtain ⟨rd, gb⟩ := I0 h17
                refine wpOp_step rfl (fun K' hK => ?_)
                go_simp
                refine hK _ _ ?_
                exact ⟨_, _, _, _, _, _, _, _, _, _, _, _, _, _, _, _, _, rfl, (fun _ => ⟨by rw [upd_other (by decide)]; exact rd, gb⟩), (upd_all I1 (by decide)), (fun _ => by first | rfl | simp), (kp f1), (kp f2), (kp f3), (kp f4), (kp f5), (kp f6), (kp f7), (kp f8), (kp f9), (kp f10), (kp f11), (kp f12), (kp f13), (kp f14), (kp f15), (kp f16), (fun h => absurd (upd_ne h (by decide)) (by rw [h17]; simp))⟩
              · obtain rfl := Option.some.inj ho
                have g0 := f0 (hd ⟨0, .data⟩ (by simp) rfl)
                subst g0
                have h17 : L 17 = false := by
                  cases e : L 17
                  · rfl
                  · exact absurd (I1 e 1 (by decide)) (by rw [hL]; simp)
                obtain ⟨rd, gb⟩ := I0 h17
                have y0 : ww.cell? ⟨b, 0, none⟩ = some (.slice (some ⟨gc, 0, none⟩) nn c1) := gb.cell x0 (fun e => by injection e with e; simp only at e; omega)
                refine wpOp_step rfl (fun K' hK => ?_)
                go_simp
                refine hK _ _ ?_
                exact ⟨_, _, _, _, _, _, _, _, _, _, _, _, _, _, _, _, _, rfl, (fun _ => ⟨by rw [upd_other (by decide)]; exact rd, gb⟩), (upd_all I1 (by decide)), (kp f0), (fun _ => by first | rfl | simp), (kp f2), (kp f3), (kp f4), (kp f5), (kp f6), (kp f7), (kp f8), (kp f9), (kp f10), (kp f11), (kp f12), (kp f13), (kp f14), (kp f15), (kp f16), (fun h => absurd (upd_ne h (by decide)) (by rw [h17]; simp))⟩
              · obtain rfl := Option.some.inj ho
                have h17 : L 17 = false := by
                  cases e : L 17
                  · rfl
                  · exact absurd (I1 e 2 (by decide)) (by rw [hL]; simp)
                obtain ⟨rd, gb⟩ := I0 h17
                refine wpOp_step rfl (fun K' hK => ?_)
                go_simp
                refine hK _ _ ?_
                exact ⟨_, _, _, _, _, _, _, _, _, _, _, _, _, _, _, _, _, rfl, (fun _ => ⟨by rw [upd_other (by decide)]; exact rd, gb⟩), (upd_all I1 (by decide)), (kp f0), (kp f1), (fun _ => by first | rfl | simp), (kp f3), (kp f4), (kp f5), (kp f6), (kp f7), (kp f8), (kp f9), (kp f10), (kp f11), (kp f12), (kp f13), (kp f14), (kp f15), (kp f16), (fun h => absurd (upd_ne h (by decide)) (by rw [h17]; simp))⟩
              · obtain rfl := Option.some.inj ho
                have g1 := f1 (hd ⟨1, .data⟩ (by simp) rfl)
                have g2 := f2 (hd ⟨2, .data⟩ (by simp) rfl)
                subst g1
                subst g2
                have h17 : L 17 = false := by
                  cases e : L 17
                  · rfl
                  · exact absurd (I1 e 3 (by decide)) (by rw [hL]; simp)
                obtain ⟨rd, gb⟩ := I0 h17
                refine wpOp_step rfl (fun K' hK => ?_)
                go_simp
                refine hK _ _ ?_
                exact ⟨_, _, _, _, _, _, _, _, _, _, _, _, _, _, _, _, _, rfl, (fun _ => ⟨by rw [upd_other (by decide)]; exact rd, gb⟩), (upd_all I1 (by decide)), (kp f0), (kp f1), (kp f2), (fun _ => by first | rfl | simp), (kp f4), (kp f5), (kp f6), (kp f7), (kp f8), (kp f9), (kp f10), (kp f11), (kp f12), (kp f13), (kp f14), (kp f15), (kp f16), (fun h => absurd (upd_ne h (by decide)) (by rw [h17]; simp))⟩
              · obtain rfl := Option.some.inj ho
                have g3 := f3 (hd ⟨3, .data⟩ (by simp) rfl)
                subst g3
                have h17 : L 17 = false := by
                  cases e : L 17
                  · rfl
                  · exact absurd (I1 e 4 (by decide)) (by rw [hL]; simp)
                obtain ⟨rd, gb⟩ := I0 h17
                refine wpOp_step rfl (fun K' hK => ?_)
                go_simp
                refine hK _ _ ?_
                exact ⟨_, _, _, _, _, _, _, _, _, _, _, _, _, _, _, _, _, rfl, (fun _ => ⟨by rw [upd_other (by decide)]; exact rd, gb⟩), (upd_all I1 (by decide)), (kp f0), (kp f1), (kp f2), (kp f3), (fun _ => by first | rfl | simp), (kp f5), (kp f6), (kp f7), (kp f8), (kp f9), (kp f10), (kp f11), (kp f12), (kp f13), (kp f14), (kp f15), (kp f16), (fun h => absurd (upd_ne h (by decide)) (by rw [h17]; simp))⟩
              · obtain rfl := Option.some.inj ho
                have g4 := f4 (hd ⟨4, .data⟩ (by simp) rfl)
                subst g4
                have h17 : L 17 = false := by
                  cases e : L 17
                  · rfl
                  · exact absurd (I1 e 5 (by decide)) (by rw [hL]; simp)
                obtain ⟨rd, gb⟩ := I0 h17
                have y0 : ww.cell? ⟨gc, ka * 3 + 2, none⟩ = some (.slice (some ⟨gv, 0, none⟩) mr cv) := gb.cell d2 (fun e => by injection e with e; simp only at e; omega)
                refine wpOp_step rfl (fun K' hK => ?_)
                go_simp
                refine hK _ _ ?_
                exact ⟨_, _, _, _, _, _, _, _, _, _, _, _, _, _, _, _, _, rfl, (fun _ => ⟨by rw [upd_other (by decide)]; exact rd, gb⟩), (upd_all I1 (by decide)), (kp f0), (kp f1), (kp f2), (kp f3), (kp f4), (fun _ => by first | rfl | simp), (kp f6), (kp f7), (kp f8), (kp f9), (kp f10), (kp f11), (kp f12), (kp f13), (kp f14), (kp f15), (kp f16), (fun h => absurd (upd_ne h (by decide)) (by rw [h17]; simp))⟩
              · obtain rfl := Option.some.inj ho
                have h17 : L 17 = false := by
                  cases e : L 17
                  · rfl
                  · exact absurd (I1 e 6 (by decide)) (by rw [hL]; simp)
                obtain ⟨rd, gb⟩ := I0 h17
                refine wpOp_step rfl (fun K' hK => ?_)
                go_simp
                refine hK _ _ ?_
                exact ⟨_, _, _, _, _, _, _, _, _, _, _, _, _, _, _, _, _, rfl, (fun _ => ⟨by rw [upd_other (by decide)]; exact rd, gb⟩), (upd_all I1 (by decide)), (kp f0), (kp f1), (kp f2), (kp f3), (kp f4), (kp f5), (fun _ => by first | rfl | simp), (kp f7), (kp f8), (kp f9), (kp f10), (kp f11), (kp f12), (kp f13), (kp f14), (kp f15), (kp f16), (fun h => absurd (upd_ne h (by decide)) (by rw [h17]; simp))⟩
              · obtain rfl := Option.some.inj ho
                have h17 : L 17 = false := by
                  cases e : L 17
                  · rfl
                  · exact absurd (I1 e 7 (by decide)) (by rw [hL]; simp)
                obtain ⟨rd, gb⟩ := I0 h17
                refine wpOp_step rfl (fun K' hK => ?_)
                go_simp
                refine hK _ _ ?_
                exact ⟨_, _, _, _, _, _, _, _, _, _, _, _, _, _, _, _, _, rfl, (fun _ => ⟨by rw [upd_other (by decide)]; exact rd, gb⟩), (upd_all I1 (by decide)), (kp f0), (kp f1), (kp f2), (kp f3), (kp f4), (kp f5), (kp f6), (fun _ => by first | rfl | simp), (kp f8), (kp f9), (kp f10), (kp f11), (kp f12), (kp f13), (kp f14), (kp f15), (kp f16), (fun h => absurd (upd_ne h (by decide)) (by rw [h17]; simp))⟩
              · obtain rfl := Option.some.inj ho
                have g7 := f7 (hd ⟨7, .data⟩ (by simp) rfl)
                subst g7
                have h17 : L 17 = false := by
                  cases e : L 17
                  · rfl
                  · exact absurd (I1 e 8 (by decide)) (by rw [hL]; simp)
                obtain ⟨rd, gb⟩ := I0 h17
                have y0 : ww.cell? ⟨b, 0, none⟩ = some (.slice (some ⟨gc, 0, none⟩) nn c1) := gb.cell x0 (fun e => by injection e with e; simp only at e; omega)
                refine wpOp_step rfl (fun K' hK => ?_)
                go_simp
                refine hK _ _ ?_
                exact ⟨_, _, _, _, _, _, _, _, _, _, _, _, _, _, _, _, _, rfl, (fun _ => ⟨by rw [upd_other (by decide)]; exact rd, gb⟩), (upd_all I1 (by decide)), (kp f0), (kp f1), (kp f2), (kp f3), (kp f4), (kp f5), (kp f6), (kp f7), (fun _ => by first | rfl | simp), (kp f9), (kp f10), (kp f11), (kp f12), (kp f13), (kp f14), (kp f15), (kp f16), (fun h => absurd (upd_ne h (by decide)) (by rw [h17]; simp))⟩
              · obtain rfl := Option.some.inj ho
                have h17 : L 17 = false := by
                  cases e : L 17
                  · rfl
                  · exact absurd (I1 e 9 (by decide)) (by rw [hL]; simp)
                obtain ⟨rd, gb⟩ := I0 h17
                refine wpOp_step rfl (fun K' hK => ?_)
                go_simp
                refine hK _ _ ?_
                exact ⟨_, _, _, _, _, _, _, _, _, _, _, _, _, _, _, _, _, rfl, (fun _ => ⟨by rw [upd_other (by decide)]; exact rd, gb⟩), (upd_all I1 (by decide)), (kp f0), (kp f1), (kp f2), (kp f3), (kp f4), (kp f5), (kp f6), (kp f7), (kp f8), (fun _ => by first | rfl | simp), (kp f10), (kp f11), (kp f12), (kp f13), (kp f14), (kp f15), (kp f16), (fun h => absurd (upd_ne h (by decide)) (by rw [h17]; simp))⟩
              · obtain rfl := Option.some.inj ho
                have g8 := f8 (hd ⟨8, .data⟩ (by simp) rfl)
                have g9 := f9 (hd ⟨9, .data⟩ (by simp) rfl)
                subst g8
                subst g9
                have h17 : L 17 = false := by
                  cases e : L 17
                  · rfl
                  · exact absurd (I1 e 10 (by decide)) (by rw [hL]; simp)
                obtain ⟨rd, gb⟩ := I0 h17
                refine wpOp_step rfl (fun K' hK => ?_)
                go_simp
                refine hK _ _ ?_
                exact ⟨_, _, _, _, _, _, _, _, _, _, _, _, _, _, _, _, _, rfl, (fun _ => ⟨by rw [upd_other (by decide)]; exact rd, gb⟩), (upd_all I1 (by decide)), (kp f0), (kp f1), (kp f2), (kp f3), (kp f4), (kp f5), (kp f6), (kp f7), (kp f8), (kp f9), (fun _ => by first | rfl | simp), (kp f11), (kp f12), (kp f13), (kp f14), (kp f15), (kp f16), (fun h => absurd (upd_ne h (by decide)) (by rw [h17]; simp))⟩
              · obtain rfl := Option.some.inj ho
                have g10 := f10 (hd ⟨10, .data⟩ (by simp) rfl)
                subst g10
                have h17 : L 17 = false := by
                  cases e : L 17
                  · rfl
                  · exact absurd (I1 e 11 (by decide)) (by rw [hL]; simp)
                obtain ⟨rd, gb⟩ := I0 h17
                refine wpOp_step rfl (fun K' hK => ?_)
                go_simp
                refine hK _ _ ?_
                exact ⟨_, _, _, _, _, _, _, _, _, _, _, _, _, _, _, _, _, rfl, (fun _ => ⟨by rw [upd_other (by decide)]; exact rd, gb⟩), (upd_all I1 (by decide)), (kp f0), (kp f1), (kp f2), (kp f3), (kp f4), (kp f5), (kp f6), (kp f7), (kp f8), (kp f9), (kp f10), (fun _ => by first | rfl | simp), (kp f12), (kp f13), (kp f14), (kp f15), (kp f16), (fun h => absurd (upd_ne h (by decide)) (by rw [h17]; simp))⟩
              · obtain rfl := Option.some.inj ho
                have g11 := f11 (hd ⟨11, .data⟩ (by simp) rfl)
                subst g11
                have h17 : L 17 = false := by
                  cases e : L 17
                  · rfl
                  · exact absurd (I1 e 12 (by decide)) (by rw [hL]; simp)
                obtain ⟨rd, gb⟩ := I0 h17
                have y0 : ww.cell? ⟨gc, ka * 3 + 2, none⟩ = some (.slice (some ⟨gv, 0, none⟩) mr cv) := gb.cell d2 (fun e => by injection e with e; simp only at e; omega)
                refine wpOp_step rfl (fun K' hK => ?_)
                go_simp
                refine hK _ _ ?_
                exact ⟨_, _, _, _, _, _, _, _, _, _, _, _, _, _, _, _, _, rfl, (fun _ => ⟨by rw [upd_other (by decide)]; exact rd, gb⟩), (upd_all I1 (by decide)), (kp f0), (kp f1), (kp f2), (kp f3), (kp f4), (kp f5), (kp f6), (kp f7), (kp f8), (kp f9), (kp f10), (kp f11), (fun _ => by first | rfl | simp), (kp f13), (kp f14), (kp f15), (kp f16), (fun h => absurd (upd_ne h (by decide)) (by rw [h17]; simp))⟩
              · obtain rfl := Option.some.inj ho
                have g12 := f12 (hd ⟨12, .data⟩ (by simp) rfl)
                subst g12
                have h17 : L 17 = false := by
                  cases e : L 17
                  · rfl
                  · exact absurd (I1 e 13 (by decide)) (by rw [hL]; simp)
                obtain ⟨rd, gb⟩ := I0 h17
                refine wpOp_step rfl (fun K' hK => ?_)
                go_simp
                refine hK _ _ ?_
                exact ⟨_, _, _, _, _, _, _, _, _, _, _, _, _, _, _, _, _, rfl, (fun _ => ⟨by rw [upd_other (by decide)]; exact rd, gb⟩), (upd_all I1 (by decide)), (kp f0), (kp f1), (kp f2), (kp f3), (kp f4), (kp f5), (kp f6), (kp f7), (kp f8), (kp f9), (kp f10), (kp f11), (kp f12), (fun _ => by first | rfl | simp), (kp f14), (kp f15), (kp f16), (fun h => absurd (upd_ne h (by decide)) (by rw [h17]; simp))⟩
              · obtain rfl := Option.some.inj ho
                have g6 := f6 (hd ⟨6, .data⟩ (by simp) rfl)
                have g13 := f13 (hd ⟨13, .data⟩ (by simp) rfl)
                subst g6
                subst g13
                have h17 : L 17 = false := by
                  cases e : L 17
                  · rfl
                  · exact absurd (I1 e 14 (by decide)) (by rw [hL]; simp)
                obtain ⟨rd, gb⟩ := I0 h17
                refine wpOp_step rfl (fun K' hK => ?_)
                go_simp
                refine (pick_any gr _ mr ww rd (by have := Bool.toNat_le (L 14); omega) (by omega)).mono ?_
                rintro e w' ⟨r, rfl, r0', r1', hr, G⟩
                obtain ⟨j, rfl⟩ := Int.eq_ofNat_of_zero_le r0'
                refine hK _ _ ?_
                exact ⟨_, _, _, _, _, _, _, _, _, _, _, _, _, _, _, _, _, rfl, (fun _ => ⟨by rw [upd_self]; rw [hL] at hr; exact hr.more (by simp), World.grownBy.trans gb G⟩), (upd_all I1 (by decide)), (kp f0), (kp f1), (kp f2), (kp f3), (kp f4), (kp f5), (kp f6), (kp f7), (kp f8), (kp f9), (kp f10), (kp f11), (kp f12), (kp f13), (fun _ => ⟨j, rfl, by omega⟩), (kp f15), (kp f16), (fun h => absurd (upd_ne h (by decide)) (by rw [h17]; simp))⟩
              · obtain rfl := Option.some.inj ho
                have h17 : L 17 = false := by
                  cases e : L 17
                  · rfl
                  · exact absurd (I1 e 15 (by decide)) (by rw [hL]; simp)
                obtain ⟨rd, gb⟩ := I0 h17
                refine wpOp_step rfl (fun K' hK => ?_)
                go_simp
                refine hK _ _ ?_
                exact ⟨_, _, _, _, _, _, _, _, _, _, _, _, _, _, _, _, _, rfl, (fun _ => ⟨by rw [upd_other (by decide)]; exact rd, gb⟩), (upd_all I1 (by decide)), (kp f0), (kp f1), (kp f2), (kp f3), (kp f4), (kp f5), (kp f6), (kp f7), (kp f8), (kp f9), (kp f10), (kp f11), (kp f12), (kp f13), (kp f14), (fun _ => by first | rfl | simp), (kp f16), (fun h => absurd (upd_ne h (by decide)) (by rw [h17]; simp))⟩
              · obtain rfl := Option.some.inj ho
                have g5 := f5 (hd ⟨5, .data⟩ (by simp) rfl)
                have g14 := f14 (hd ⟨14, .data⟩ (by simp) rfl)
                subst g5
                have h17 : L 17 = false := by
                  cases e : L 17
                  · rfl
                  · exact absurd (I1 e 16 (by decide)) (by rw [hL]; simp)
                obtain ⟨rd, gb⟩ := I0 h17
                obtain ⟨j, rfl, hj⟩ := g14
                have hj' : (j : Int) < mr := by omega
                refine wpOp_step rfl (fun K' hK => ?_)
                go_simp
                refine hK _ _ ?_
                exact ⟨_, _, _, _, _, _, _, _, _, _, _, _, _, _, _, _, _, rfl, (fun _ => ⟨by rw [upd_other (by decide)]; exact rd, gb⟩), (upd_all I1 (by decide)), (kp f0), (kp f1), (kp f2), (kp f3), (kp f4), (kp f5), (kp f6), (kp f7), (kp f8), (kp f9), (kp f10), (kp f11), (kp f12), (kp f13), (fun _ => ⟨j, rfl, hj⟩), (kp f15), (fun _ => ⟨j, by simp, hj⟩), (fun h => absurd (upd_ne h (by decide)) (by rw [h17]; simp))⟩
              · obtain rfl := Option.some.inj ho
                have g15 := f15 (hd ⟨15, .data⟩ (by simp) rfl)
                have g16 := f16 (hd ⟨16, .data⟩ (by simp) rfl)
                subst g15
                have h17 := hL
                obtain ⟨rd, gb⟩ := I0 h17
                obtain ⟨j, rfl, hj⟩ := g16
                have h14 := hd ⟨14, .chain⟩ (by simp) rfl
                have SP := SR.out.pick rd gb
                have hov := SP.own.refs ka ca _ HA.out HR.out
                obtain ⟨xo, hxo, cr⟩ := hov.cell_at (j := j) hj
                have fz : ww.frozen? ⟨gv, j, none⟩ = false := hov.frozen HL.out j
                clear SP hov hxo
                refine wpOp_step rfl (fun K' hK => ?_)
                go_simp
                refine hK _ _ ?_
                exact ⟨_, _, _, _, _, _, _, _, _, _, _, _, _, _, _, _, _, rfl, (fun h => absurd h (by rw [upd_self]; simp)), (fun _ q hq => upd_mono (by
                  have hq17 : q = 0 ∨ q = 1 ∨ q = 2 ∨ q = 3 ∨ q = 4 ∨ q = 5 ∨ q = 6 ∨ q = 7 ∨ q = 8 ∨ q = 9 ∨ q = 10 ∨ q = 11 ∨ q = 12 ∨ q = 13 ∨ q = 14 ∨ q = 15 ∨ q = 16 := by omega
                  rcases hq17 with rfl | rfl | rfl | rfl | rfl | rfl | rfl | rfl | rfl | rfl | rfl | rfl | rfl | rfl | rfl | rfl | rfl
                  · exact hd ⟨0, .phase⟩ (by simp) rfl
                  · exact hd ⟨1, .phase⟩ (by simp) rfl
                  · exact hd ⟨2, .phase⟩ (by simp) rfl
                  · exact hd ⟨3, .phase⟩ (by simp) rfl
                  · exact hd ⟨4, .phase⟩ (by simp) rfl
                  · exact hd ⟨5, .phase⟩ (by simp) rfl
                  · exact hd ⟨6, .phase⟩ (by simp) rfl
                  · exact hd ⟨7, .phase⟩ (by simp) rfl
                  · exact hd ⟨8, .phase⟩ (by simp) rfl
                  · exact hd ⟨9, .phase⟩ (by simp) rfl
                  · exact hd ⟨10, .phase⟩ (by simp) rfl
                  · exact hd ⟨11, .phase⟩ (by simp) rfl
                  · exact hd ⟨12, .phase⟩ (by simp) rfl
                  · exact hd ⟨13, .phase⟩ (by simp) rfl
                  · exact hd ⟨14, .phase⟩ (by simp) rfl
                  · exact hd ⟨15, .data⟩ (by simp) rfl
                  · exact hd ⟨16, .data⟩ (by simp) rfl)), (kp f0), (kp f1), (kp f2), (kp f3), (kp f4), (kp f5), (kp f6), (kp f7), (kp f8), (kp f9), (kp f10), (kp f11), (kp f12), (kp f13), (kp f14), (kp f15), (fun _ => ⟨j, rfl, hj⟩), (fun _ => ⟨j, ww, hj, rfl, rd.more (by rw [h14]; simp), gb⟩)⟩
            case hdone =>
              rintro L ac ww hall ⟨t66, t67, t68, t69, t70, t71, t72, t73, t74, t75, t76, t77, t78, t79, t80, t81, t82, rfl, I0, I1, f0, f1, f2, f3, f4, f5, f6, f7, f8, f9, f10, f11, f12, f13, f14, f15, f16, f17⟩
              have e0 := f0 (hall 0 (by decide))
              have e1 := f1 (hall 1 (by decide))
              have e2 := f2 (hall 2 (by decide))
              have e3 := f3 (hall 3 (by decide))
              have e4 := f4 (hall 4 (by decide))
              have e5 := f5 (hall 5 (by decide))
              have e6 := f6 (hall 6 (by decide))
              have e7 := f7 (hall 7 (by decide))
              have e8 := f8 (hall 8 (by decide))
              have e9 := f9 (hall 9 (by decide))
              have e10 := f10 (hall 10 (by decide))
              have e11 := f11 (hall 11 (by decide))
              have e12 := f12 (hall 12 (by decide))
              have e13 := f13 (hall 13 (by decide))
              have e14 := f14 (hall 14 (by decide))
              have e15 := f15 (hall 15 (by decide))
              have e16 := f16 (hall 16 (by decide))
              have e17 := f17 (hall 17 (by decide))
              clear f0 f1 f2 f3 f4 f5 f6 f7 f8 f9 f10 f11 f12 f13 f14 f15 f16 f17
              obtain ⟨j, w1, hj, rfl, rd1, gb1⟩ := e17
              have S7 := SR.out.pick rd1 gb1
              have S8 := (S7.ref1 (i := j) HA.out HR.out HL.out (kt : Int)).more (N' := N + 602 + 3 * (5 - (k - 1))) (by omega)
              have HV8 := Lib.hid (Hps.mutate_valid (j := j) HV.out HA.out HUA.out HT.out HUT.out)
              have HN8 := Lib.hid (show (h1.cs.set ka ⟨ca.u, ca.d, ca.r.set j (kt : Int)⟩).length = nn by rw [List.length_set]; exact HN.out)
              have SH := Lib.hid S8
              clear e0 e1 e2 e3 e4 e5 e6 e7 e8 e9 e10 e11 e12 e13 e14 e15 e16 I0 I1 S7 S8 rd1 gb1 SR x0 x1 d0 d0' d2
              go_wp2_with fail
              go_roundw
              case rel => exact ⟨k - 1, _, nn, c1, R1, d1, rvs1, ⟨h1.cs.set ka ⟨ca.u, ca.d, ca.r.set j (kt : Int)⟩, h1.rt⟩, by omega, int_eq (by omega), hn40, HN8, HM, HV8, SH.out⟩
              case measure => simp [intOf]; omega
          · obtain rfl : nn = 0 := by omega
            have hk1 : decide ((0 : Int) < k) = true := decide_eq_true hk0'
            have SE := S.more (N' := N + 617) (by omega)
            clear S
            go_wp2_with fail
            go_meet
            case rel => exact ⟨A1, _, c1, R1, d1, rvs1, h1, hn40, HN, HM, HV, SE⟩
        · obtain rfl : k = 0 := by omega
          have SE := S.more (N' := N + 617) (by omega)
          clear S
          go_wp2_with fail
          go_meet
          case rel => exact ⟨A1, _, c1, R1, d1, rvs1, h1, hn40, HN, HM, HV, SE⟩
    case rest =>
      clear S HN1 HM1 HV1 hn1 cr' q h1 rvs1 A1 c1 R1 d1 n1
      obtain ⟨A1, nn, c1, R1, d1, rvs1, h1, hn40, HN, HM, HV, S⟩ := hcut
      have hlo := S.lo
      have hold := S.old
      have SM := Lib.hid (small_valid HV.out)
      by_cases hn1 : n = 0
      · subst hn1
        have RD := Lib.hid S.rd
        have r0 : (wc).cell? ⟨b, 0, none⟩ = some (.slice A1 nn c1) := S.box.cell 0
        have r1 : (wc).cell? ⟨b, 1, none⟩ = some (.slice R1 4 d1) := S.box.cell 1
        have r2 : (wc).frozen? ⟨w.heap.size, 0, none⟩ = false := S.res.frozen 0
        have r3 : (wc).frozen? ⟨w.heap.size, 1, none⟩ = false := S.res.frozen 1
        have r4 : (wc).cell? ⟨w.heap.size, 0, none⟩ = some (.slice none 0 0) := S.res.cell 0
        have r5 : (wc).cell? ⟨w.heap.size, 1, none⟩ = some (.slice none 0 0) := S.res.cell 1
        have r6 : (((wc).setCell ⟨w.heap.size, 0, none⟩ (.slice A1 nn c1)).setCell ⟨w.heap.size, 1, none⟩ (.slice R1 4 d1)).cell? ⟨w.heap.size, 0, none⟩ = some (.slice A1 nn c1) := ((S.res.put 0 (.slice A1 nn c1)).put 1 (.slice R1 4 d1)).cell 0
        have r7 : (((wc).setCell ⟨w.heap.size, 0, none⟩ (.slice A1 nn c1)).setCell ⟨w.heap.size, 1, none⟩ (.slice R1 4 d1)).cell? ⟨w.heap.size, 1, none⟩ = some (.slice R1 4 d1) := ((S.res.put 0 (.slice A1 nn c1)).put 1 (.slice R1 4 d1)).cell 1
        have FI := Lib.hid (S.fin (.slice A1 nn c1) (.slice R1 4 d1))
        have CAP := Lib.hid S.own.caps.2.2
        clear S 
        go_wp2_with fail
        refine (odd_zero' _ _ _ RD.out).mono ?_
        rintro e w' ⟨rfl, rfl⟩
        go_wp2_with fail
        exact bodyPost_ret (v := .agg #[.slice A1 nn c1, .slice R1 4 d1]) (by simp [results, Tryd.results56, go_sem, *]) rfl ⟨A1, nn, c1, R1, 4, d1, h1, rfl, CAP.out.1, CAP.out.2, FI.out.1, fun _ => HV.out, SM.out, FI.out.2.1.more (by omega), FI.out.2.2⟩
      have hn2 : 1 ≤ n := by omega
      go_wp2_with fail
      refine (odd_any _ _ _ _ S.rd (by omega) hn2 (by omega)).mono ?_
      rintro e w5 ⟨bb, rfl, hr5, g5⟩
      replace S := S.pick hr5 g5
      clear hr5 g5 wc
      cases bb
      · have r0 : (w5).cell? ⟨b, 0, none⟩ = some (.slice A1 nn c1) := S.box.cell 0
        have r1 : (w5).cell? ⟨b, 1, none⟩ = some (.slice R1 4 d1) := S.box.cell 1
        have r2 : (w5).frozen? ⟨w.heap.size, 0, none⟩ = false := S.res.frozen 0
        have r3 : (w5).frozen? ⟨w.heap.size, 1, none⟩ = false := S.res.frozen 1
        have r4 : (w5).cell? ⟨w.heap.size, 0, none⟩ = some (.slice none 0 0) := S.res.cell 0
        have r5 : (w5).cell? ⟨w.heap.size, 1, none⟩ = some (.slice none 0 0) := S.res.cell 1
        have r6 : (((w5).setCell ⟨w.heap.size, 0, none⟩ (.slice A1 nn c1)).setCell ⟨w.heap.size, 1, none⟩ (.slice R1 4 d1)).cell? ⟨w.heap.size, 0, none⟩ = some (.slice A1 nn c1) := ((S.res.put 0 (.slice A1 nn c1)).put 1 (.slice R1 4 d1)).cell 0
        have r7 : (((w5).setCell ⟨w.heap.size, 0, none⟩ (.slice A1 nn c1)).setCell ⟨w.heap.size, 1, none⟩ (.slice R1 4 d1)).cell? ⟨w.heap.size, 1, none⟩ = some (.slice R1 4 d1) := ((S.res.put 0 (.slice A1 nn c1)).put 1 (.slice R1 4 d1)).cell 1
        have FI := Lib.hid (S.fin (.slice A1 nn c1) (.slice R1 4 d1))
        have CAP := Lib.hid S.own.caps.2.2
        clear S 
        go_wp2_with fail
        exact bodyPost_ret (v := .agg #[.slice A1 nn c1, .slice R1 4 d1]) (by simp [results, Tryd.results56, go_sem, *]) rfl ⟨A1, nn, c1, R1, 4, d1, h1, rfl, CAP.out.1, CAP.out.2, FI.out.1, fun h => absurd h hn1, SM.out, FI.out.2.1.more (by omega), FI.out.2.2⟩
      go_wp2_with fail
      refine (pick_any _ _ _ _ S.rd (by omega) (by omega)).mono ?_
      rintro e w6 ⟨r6, rfl, a6, c6, hr6, g6⟩
      replace S := S.pick hr6 g6
      clear hr6 g6 w5
      obtain ⟨gR, rfl, hgR1, hgR2⟩ := S.own.rootAddr (by omega)
      have hcases : r6 = 0 ∨ r6 = 1 ∨ r6 = 2 ∨ r6 = 3 ∨ r6 = 4 := by omega
      clear a6 c6
      have x0 : w6.cell? ⟨b, 0, none⟩ = some (.slice A1 nn c1) := S.box.cell 0
      have x1 : w6.cell? ⟨b, 1, none⟩ = some (.slice (some ⟨gR, 0, none⟩) 4 d1) := S.box.cell 1
      have fb0 : w6.frozen? ⟨b, 0, none⟩ = false := S.box.frozen 0
      have fb1 : w6.frozen? ⟨b, 1, none⟩ = false := S.box.frozen 1
      have cap4 := S.own.caps.2.2.2
      rcases hcases with rfl | rfl | rfl | rfl | rfl
      · obtain ⟨own', box', res', rd', gb'⟩ := S.boxed (.slice (some ⟨gR, 1, none⟩) 3 (d1 - 1))
        have r0 : (w6.setCell ⟨b, 1, none⟩ (.slice (some ⟨gR, 1, none⟩) 3 (d1 - 1))).cell? ⟨b, 0, none⟩ = some (.slice A1 nn c1) := box'.cell 0
        have r1 : (w6.setCell ⟨b, 1, none⟩ (.slice (some ⟨gR, 1, none⟩) 3 (d1 - 1))).cell? ⟨b, 1, none⟩ = some (.slice (some ⟨gR, 1, none⟩) 3 (d1 - 1)) := box'.cell 1
        have r2 : (w6.setCell ⟨b, 1, none⟩ (.slice (some ⟨gR, 1, none⟩) 3 (d1 - 1))).frozen? ⟨w.heap.size, 0, none⟩ = false := res'.frozen 0
        have r3 : (w6.setCell ⟨b, 1, none⟩ (.slice (some ⟨gR, 1, none⟩) 3 (d1 - 1))).frozen? ⟨w.heap.size, 1, none⟩ = false := res'.frozen 1
        have r4 : (w6.setCell ⟨b, 1, none⟩ (.slice (some ⟨gR, 1, none⟩) 3 (d1 - 1))).cell? ⟨w.heap.size, 0, none⟩ = some (.slice none 0 0) := res'.cell 0
        have r5 : (w6.setCell ⟨b, 1, none⟩ (.slice (some ⟨gR, 1, none⟩) 3 (d1 - 1))).cell? ⟨w.heap.size, 1, none⟩ = some (.slice none 0 0) := res'.cell 1
        have r6 : (((w6.setCell ⟨b, 1, none⟩ (.slice (some ⟨gR, 1, none⟩) 3 (d1 - 1))).setCell ⟨w.heap.size, 0, none⟩ (.slice A1 nn c1)).setCell ⟨w.heap.size, 1, none⟩ (.slice (some ⟨gR, 1, none⟩) 3 (d1 - 1))).cell? ⟨w.heap.size, 0, none⟩ = some (.slice A1 nn c1) := ((res'.put 0 (.slice A1 nn c1)).put 1 (.slice (some ⟨gR, 1, none⟩) 3 (d1 - 1))).cell 0
        have r7 : (((w6.setCell ⟨b, 1, none⟩ (.slice (some ⟨gR, 1, none⟩) 3 (d1 - 1))).setCell ⟨w.heap.size, 0, none⟩ (.slice A1 nn c1)).setCell ⟨w.heap.size, 1, none⟩ (.slice (some ⟨gR, 1, none⟩) 3 (d1 - 1))).cell? ⟨w.heap.size, 1, none⟩ = some (.slice (some ⟨gR, 1, none⟩) 3 (d1 - 1)) := ((res'.put 0 (.slice A1 nn c1)).put 1 (.slice (some ⟨gR, 1, none⟩) 3 (d1 - 1))).cell 1
        have FI := Lib.hid (fin_cut (m := 3) hold own' rd' gb' (.slice A1 nn c1) (.slice (some ⟨gR, 1, none⟩) 3 (d1 - 1)))
        have CAP := Lib.hid (show nn ≤ c1 ∧ 3 ≤ d1 - 1 from ⟨own'.caps.2.2.1, by omega⟩)
        have SM3 := Lib.hid (SmallH.drop1 SM.out)
        have cap4' : (4 : Int) ≤ d1 := by omega
        have hd1 : ((d1 : Int) - 1).toNat = d1 - 1 := by omega
        clear S own' box' res' rd' gb'
        go_wp2_with fail
        exact bodyPost_ret (v := .agg #[.slice A1 nn c1, .slice (some ⟨gR, 1, none⟩) 3 (d1 - 1)]) (by simp [results, Tryd.results56, go_sem, *]) rfl ⟨A1, nn, c1, some ⟨gR, 1, none⟩, 3, d1 - 1, ⟨h1.cs, h1.rt.drop 1⟩, rfl, CAP.out.1, CAP.out.2, FI.out.1, fun h => absurd h hn1, SM3.out, FI.out.2.1.more (by omega), FI.out.2.2⟩
      · have SR := Lib.hid S
        clear S
        go_wp2_with fail
        refine wp_region_inv (by kernel_rfl) (by kernel_rfl) (fun L ac ww => ∃ t107 t108 t109 t110 t111 t112 t113 t114 t115 t116 t117 t118 t119 : Value, ac = { tmps := #[Value.pointer (some { block := gr, off := 0 }), Value.int IntKind.i64 n, undef, undef, Value.pointer (some { block := w.heap.size, off := 0 }), Value.pointer (some { block := b, off := 0 }), u6, u7, u8, u9, u10, u11, u12, u13, u14, u15, u16, u17, u18, u19, u20, u21, u22, u23, u24, u25, u26, u27, u28, u29, u30, u31, u32, u33, u34, u35, u36, u37, u38, u39, u40, u41, u42, u43, u44, u45, u46, u47, u48, u49, u50, u51, u52, u53, u54, u55, u56, u57, u58, u59, u60, u61, u62, u63, u64, u65, u66, u67, u68, u69, u70, u71, u72, u73, u74, u75, u76, u77, u78, u79, u80, u81, u82, Value.pointer (some { block := gr, off := 0 }), Value.int IntKind.i64 n, Value.bool true, Value.pointer (some { block := gr, off := 0 }), Value.int IntKind.i64 1, u88, u89, u90, u91, u92, u93, u94, u95, u96, u97, u98, Value.bool false, Value.bool false, u101, u102, u103, u104, Value.bool true, Value.bool true, t107, t108, t109, t110, t111, t112, t113, t114, t115, t116, t117, t118, t119, u120, u121, u122, u123, u124, u125, u126, u127, u128, u129, u130, u131, u132, u133, u134, u135, u136, u137, u138, u139, u140, u141], defers := [] } ∧ (L 13 = false → Rd ww gr (N + 617 + 1 + 1 + (L 3).toNat + (L 9).toNat) ∧ w6.grownBy ww (some gr)) ∧ (L 13 = true → ∀ q, q < 13 → L q = true) ∧ (L 0 = true → t107 = (.pointer (some ⟨b, 1, none⟩))) ∧ (L 1 = true → t108 = (.slice (some ⟨gR, 0, none⟩) 4 d1)) ∧ (L 2 = true → t109 = (.pointer (some ⟨gr, 0, none⟩))) ∧ (L 3 = true → ∃ j : Nat, t110 = .int .i64 j ∧ j < 4) ∧ (L 4 = true → t111 = (.pointer (some ⟨b, 0, none⟩))) ∧ (L 5 = true → t112 = (.slice A1 nn c1)) ∧ (L 6 = true → t113 = .int .i64 nn) ∧ (L 7 = true → L 13 = true ∨ TblOf ww gr 2 (-2) 40 t114) ∧ (L 8 = true → t115 = (.pointer (some ⟨gr, 0, none⟩))) ∧ (L 9 = true → IntIn 0 1 t116) ∧ (L 10 = true → L 13 = true ∨ PtrOf ww gr 2 (-2) 40 t117) ∧ (L 11 = true → IntIn (-2) 40 t118) ∧ (L 12 = true → ∃ j : Nat, t119 = .pointer (some ⟨gR, j, none⟩) ∧ j < 4) ∧ (L 13 = true → ∃ (j : Nat) (q : Int) (w1 : World), j < 4 ∧ -2 ≤ q ∧ q ≤ 40 ∧ ww = w1.setCell ⟨gR, j, none⟩ (.int .i64 q) ∧ Rd w1 gr (N + 617 + 1 + 1 + 2) ∧ w6.grownBy w1 (some gr))) ?h0 ?hstep ?hdone
        case h0 => exact ⟨_, _, _, _, _, _, _, _, _, _, _, _, _, rfl, fun _ => ⟨by simpa using SR.out.rd.below (Below.refl _ _).drew SR.out.rd.lt, grown_below (World.grownBy.refl _ _) (Below.refl _ _).drew⟩, fun h => absurd h Bool.false_ne_true, (fun h => absurd h Bool.false_ne_true), (fun h => absurd h Bool.false_ne_true), (fun h => absurd h Bool.false_ne_true), (fun h => absurd h Bool.false_ne_true), (fun h => absurd h Bool.false_ne_true), (fun h => absurd h Bool.false_ne_true), (fun h => absurd h Bool.false_ne_true), (fun h => absurd h Bool.false_ne_true), (fun h => absurd h Bool.false_ne_true), (fun h => absurd h Bool.false_ne_true), (fun h => absurd h Bool.false_ne_true), (fun h => absurd h Bool.false_ne_true), (fun h => absurd h Bool.false_ne_true), (fun h => absurd h Bool.false_ne_true)⟩
        case hstep =>
          rintro L ac ww i o ho hL hd ⟨t107, t108, t109, t110, t111, t112, t113, t114, t115, t116, t117, t118, t119, rfl, I0, I1, f0, f1, f2, f3, f4, f5, f6, f7, f8, f9, f10, f11, f12, f13⟩
          have hi : i < 14 := (Array.getElem?_eq_some_iff.1 ho).1
          obtain rfl | rfl | rfl | rfl | rfl | rfl | rfl | rfl | rfl | rfl | rfl | rfl | rfl | rfl : i = 0 ∨ i = 1 ∨ i = 2 ∨ i = 3 ∨ i = 4 ∨ i = 5 ∨ i = 6 ∨ i = 7 ∨ i = 8 ∨ i = 9 ∨ i = 10 ∨ i = 11 ∨ i = 12 ∨ i = 13 := by omega
          · obtain rfl := Option.some.inj ho
            have h17 : L 13 = false := by
              cases e : L 13
              · rfl
              · exact absurd (I1 e 0 (by decide)) (by rw [hL]; simp)
            obtain ⟨rd, gb⟩ := I0 h17
            refine wpOp_step rfl (fun K' hK => ?_)
            go_simp
            refine hK _ _ ?_
            exact ⟨_, _, _, _, _, _, _, _, _, _, _, _, _, rfl, (fun _ => ⟨by rw [upd_other (by decide), upd_other (by decide)]; exact rd, gb⟩), (upd_all I1 (by decide)), (fun _ => by first | rfl | simp), (kp f1), (kp f2), (kp f3), (kp f4), (kp f5), (kp f6), (fun h => (f7 (upd_ne h (by decide))).imp (fun e => upd_mono e) id), (kp f8), (kp f9), (fun h => (f10 (upd_ne h (by decide))).imp (fun e => upd_mono e) id), (kp f11), (kp f12), (fun h => absurd (upd_ne h (by decide)) (by rw [h17]; simp))⟩
          · obtain rfl := Option.some.inj ho
            have g0 := f0 (hd ⟨0, .data⟩ (by simp) rfl)
            subst g0
            have h17 : L 13 = false := by
              cases e : L 13
              · rfl
              · exact absurd (I1 e 1 (by decide)) (by rw [hL]; simp)
            obtain ⟨rd, gb⟩ := I0 h17
            have y0 : ww.cell? ⟨b, 1, none⟩ = some (.slice (some ⟨gR, 0, none⟩) 4 d1) := gb.cell x1 (fun e => by injection e with e; simp only at e; omega)
            refine wpOp_step rfl (fun K' hK => ?_)
            go_simp
            refine hK _ _ ?_
            exact ⟨_, _, _, _, _, _, _, _, _, _, _, _, _, rfl, (fun _ => ⟨by rw [upd_other (by decide), upd_other (by decide)]; exact rd, gb⟩), (upd_all I1 (by decide)), (kp f0), (fun _ => by first | rfl | simp), (kp f2), (kp f3), (kp f4), (kp f5), (kp f6), (fun h => (f7 (upd_ne h (by decide))).imp (fun e => upd_mono e) id), (kp f8), (kp f9), (fun h => (f10 (upd_ne h (by decide))).imp (fun e => upd_mono e) id), (kp f11), (kp f12), (fun h => absurd (upd_ne h (by decide)) (by rw [h17]; simp))⟩
          · obtain rfl := Option.some.inj ho
            have h17 : L 13 = false := by
              cases e : L 13
              · rfl
              · exact absurd (I1 e 2 (by decide)) (by rw [hL]; simp)
            obtain ⟨rd, gb⟩ := I0 h17
            refine wpOp_step rfl (fun K' hK => ?_)
            go_simp
            refine hK _ _ ?_
            exact ⟨_, _, _, _, _, _, _, _, _, _, _, _, _, rfl, (fun _ => ⟨by rw [upd_other (by decide), upd_other (by decide)]; exact rd, gb⟩), (upd_all I1 (by decide)), (kp f0), (kp f1), (fun _ => by first | rfl | simp), (kp f3), (kp f4), (kp f5), (kp f6), (fun h => (f7 (upd_ne h (by decide))).imp (fun e => upd_mono e) id), (kp f8), (kp f9), (fun h => (f10 (upd_ne h (by decide))).imp (fun e => upd_mono e) id), (kp f11), (kp f12), (fun h => absurd (upd_ne h (by decide)) (by rw [h17]; simp))⟩
          · obtain rfl := Option.some.inj ho
            have g2 := f2 (hd ⟨2, .data⟩ (by simp) rfl)
            subst g2
            have h17 : L 13 = false := by
              cases e : L 13
              · rfl
              · exact absurd (I1 e 3 (by decide)) (by rw [hL]; simp)
            obtain ⟨rd, gb⟩ := I0 h17
            refine wpOp_step rfl (fun K' hK => ?_)
            go_simp
            refine (pick_any gr _ 4 ww rd (by have := Bool.toNat_le (L 3); have := Bool.toNat_le (L 9); omega) (by omega)).mono ?_
            rintro e w' ⟨r, rfl, r0', r1', hr, G⟩
            refine hK _ _ ?_
            exact ⟨_, _, _, _, _, _, _, _, _, _, _, _, _, rfl, (fun _ => ⟨by rw [upd_self, upd_other (by decide)]; rw [hL] at hr; exact hr.more (by simp; omega), World.grownBy.trans gb G⟩), (upd_all I1 (by decide)), (kp f0), (kp f1), (kp f2), (fun _ => ⟨r.toNat, by rw [Int.toNat_of_nonneg r0'], by omega⟩), (kp f4), (kp f5), (kp f6), (fun h => (f7 (upd_ne h (by decide))).imp (fun e => upd_mono e) (fun T => T.pick G)), (kp f8), (kp f9), (fun h => (f10 (upd_ne h (by decide))).imp (fun e => upd_mono e) (fun T => T.pick G)), (kp f11), (kp f12), (fun h => absurd (upd_ne h (by decide)) (by rw [h17]; simp))⟩
          · obtain rfl := Option.some.inj ho
            have h17 : L 13 = false := by
              cases e : L 13
              · rfl
              · exact absurd (I1 e 4 (by decide)) (by rw [hL]; simp)
            obtain ⟨rd, gb⟩ := I0 h17
            refine wpOp_step rfl (fun K' hK => ?_)
            go_simp
            refine hK _ _ ?_
            exact ⟨_, _, _, _, _, _, _, _, _, _, _, _, _, rfl, (fun _ => ⟨by rw [upd_other (by decide), upd_other (by decide)]; exact rd, gb⟩), (upd_all I1 (by decide)), (kp f0), (kp f1), (kp f2), (kp f3), (fun _ => by first | rfl | simp), (kp f5), (kp f6), (fun h => (f7 (upd_ne h (by decide))).imp (fun e => upd_mono e) id), (kp f8), (kp f9), (fun h => (f10 (upd_ne h (by decide))).imp (fun e => upd_mono e) id), (kp f11), (kp f12), (fun h => absurd (upd_ne h (by decide)) (by rw [h17]; simp))⟩
          · obtain rfl := Option.some.inj ho
            have g4 := f4 (hd ⟨4, .data⟩ (by simp) rfl)
            subst g4
            have h17 : L 13 = false := by
              cases e : L 13
              · rfl
              · exact absurd (I1 e 5 (by decide)) (by rw [hL]; simp)
            obtain ⟨rd, gb⟩ := I0 h17
            have y0 : ww.cell? ⟨b, 0, none⟩ = some (.slice A1 nn c1) := gb.cell x0 (fun e => by injection e with e; simp only at e; omega)
            refine wpOp_step rfl (fun K' hK => ?_)
            go_simp
            refine hK _ _ ?_
            exact ⟨_, _, _, _, _, _, _, _, _, _, _, _, _, rfl, (fun _ => ⟨by rw [upd_other (by decide), upd_other (by decide)]; exact rd, gb⟩), (upd_all I1 (by decide)), (kp f0), (kp f1), (kp f2), (kp f3), (kp f4), (fun _ => by first | rfl | simp), (kp f6), (fun h => (f7 (upd_ne h (by decide))).imp (fun e => upd_mono e) id), (kp f8), (kp f9), (fun h => (f10 (upd_ne h (by decide))).imp (fun e => upd_mono e) id), (kp f11), (kp f12), (fun h => absurd (upd_ne h (by decide)) (by rw [h17]; simp))⟩
          · obtain rfl := Option.some.inj ho
            have g5 := f5 (hd ⟨5, .data⟩ (by simp) rfl)
            subst g5
            have h17 : L 13 = false := by
              cases e : L 13
              · rfl
              · exact absurd (I1 e 6 (by decide)) (by rw [hL]; simp)
            obtain ⟨rd, gb⟩ := I0 h17
            refine wpOp_step rfl (fun K' hK => ?_)
            go_simp
            refine hK _ _ ?_
            exact ⟨_, _, _, _, _, _, _, _, _, _, _, _, _, rfl, (fun _ => ⟨by rw [upd_other (by decide), upd_other (by decide)]; exact rd, gb⟩), (upd_all I1 (by decide)), (kp f0), (kp f1), (kp f2), (kp f3), (kp f4), (kp f5), (fun _ => by first | rfl | simp), (fun h => (f7 (upd_ne h (by decide))).imp (fun e => upd_mono e) id), (kp f8), (kp f9), (fun h => (f10 (upd_ne h (by decide))).imp (fun e => upd_mono e) id), (kp f11), (kp f12), (fun h => absurd (upd_ne h (by decide)) (by rw [h17]; simp))⟩
          · obtain rfl := Option.some.inj ho
            have g6 := f6 (hd ⟨6, .data⟩ (by simp) rfl)
            subst g6
            have h17 : L 13 = false := by
              cases e : L 13
              · rfl
              · exact absurd (I1 e 7 (by decide)) (by rw [hL]; simp)
            obtain ⟨rd, gb⟩ := I0 h17
            refine wpOp_step rfl (fun K' hK => ?_)
            go_simp
            refine hK _ _ ?_
            exact ⟨_, _, _, _, _, _, _, _, _, _, _, _, _, rfl, (fun _ => ⟨by rw [upd_other (by decide), upd_other (by decide)]; exact rd.below ((Below.refl ww.heap.size ww).alloc (Nat.le_refl _) _) rd.lt, World.grownBy.trans gb (World.grownBy_alloc _ _ _)⟩), (upd_all I1 (by decide)), (kp f0), (kp f1), (kp f2), (kp f3), (kp f4), (kp f5), (kp f6), (fun _ => .inr ⟨_, rfl, Tbl.new ww gr _ [-2, (nn : Int)] (-2) 40 rd.lt (by intro q hq; simp at hq; omega) _ rfl⟩), (kp f8), (kp f9), (fun h => (f10 (upd_ne h (by decide))).imp (fun e => upd_mono e) (fun T => T.alloc _)), (kp f11), (kp f12), (fun h => absurd (upd_ne h (by decide)) (by rw [h17]; simp))⟩
          · obtain rfl := Option.some.inj ho
            have h17 : L 13 = false := by
              cases e : L 13
              · rfl
              · exact absurd (I1 e 8 (by decide)) (by rw [hL]; simp)
            obtain ⟨rd, gb⟩ := I0 h17
            refine wpOp_step rfl (fun K' hK => ?_)
            go_simp
            refine hK _ _ ?_
            exact ⟨_, _, _, _, _, _, _, _, _, _, _, _, _, rfl, (fun _ => ⟨by rw [upd_other (by decide), upd_other (by decide)]; exact rd, gb⟩), (upd_all I1 (by decide)), (kp f0), (kp f1), (kp f2), (kp f3), (kp f4), (kp f5), (kp f6), (fun h => (f7 (upd_ne h (by decide))).imp (fun e => upd_mono e) id), (fun _ => by first | rfl | simp), (kp f9), (fun h => (f10 (upd_ne h (by decide))).imp (fun e => upd_mono e) id), (kp f11), (kp f12), (fun h => absurd (upd_ne h (by decide)) (by rw [h17]; simp))⟩
          · obtain rfl := Option.some.inj ho
            have g8 := f8 (hd ⟨8, .data⟩ (by simp) rfl)
            subst g8
            have h17 : L 13 = false := by
              cases e : L 13
              · rfl
              · exact absurd (I1 e 9 (by decide)) (by rw [hL]; simp)
            obtain ⟨rd, gb⟩ := I0 h17
            refine wpOp_step rfl (fun K' hK => ?_)
            go_simp
            refine (pick_any gr _ 2 ww rd (by have := Bool.toNat_le (L 3); have := Bool.toNat_le (L 9); omega) (by omega)).mono ?_
            rintro e w' ⟨r, rfl, r0', r1', hr, G⟩
            refine hK _ _ ?_
            exact ⟨_, _, _, _, _, _, _, _, _, _, _, _, _, rfl, (fun _ => ⟨by rw [upd_self, upd_other (by decide)]; rw [hL] at hr; exact hr.more (by simp), World.grownBy.trans gb G⟩), (upd_all I1 (by decide)), (kp f0), (kp f1), (kp f2), (kp f3), (kp f4), (kp f5), (kp f6), (fun h => (f7 (upd_ne h (by decide))).imp (fun e => upd_mono e) (fun T => T.pick G)), (kp f8), (fun _ => ⟨r, rfl, r0', by omega⟩), (fun h => (f10 (upd_ne h (by decide))).imp (fun e => upd_mono e) (fun T => T.pick G)), (kp f11), (kp f12), (fun h => absurd (upd_ne h (by decide)) (by rw [h17]; simp))⟩
          · obtain rfl := Option.some.inj ho
            have g7 := f7 (hd ⟨7, .data⟩ (by simp) rfl)
            have g9 := f9 (hd ⟨9, .data⟩ (by simp) rfl)
            have h17 : L 13 = false := by
              cases e : L 13
              · rfl
              · exact absurd (I1 e 10 (by decide)) (by rw [hL]; simp)
            obtain ⟨rd, gb⟩ := I0 h17
            obtain ⟨gt, rfl, T7⟩ := g7.resolve_left (by rw [h17]; simp)
            obtain ⟨q8, rfl, q81, q82⟩ := g9
            obtain ⟨n8, rfl⟩ := Int.eq_ofNat_of_zero_le (show 0 ≤ q8 by omega)
            have l8 : n8 < 2 := by omega
            have l8' : (n8 : Int) < 2 := by omega
            refine wpOp_step rfl (fun K' hK => ?_)
            go_simp
            refine hK _ _ ?_
            exact ⟨_, _, _, _, _, _, _, _, _, _, _, _, _, rfl, (fun _ => ⟨by rw [upd_other (by decide), upd_other (by decide)]; exact rd, gb⟩), (upd_all I1 (by decide)), (kp f0), (kp f1), (kp f2), (kp f3), (kp f4), (kp f5), (kp f6), (fun _ => .inr ⟨gt, rfl, T7⟩), (kp f8), (fun _ => ⟨(n8 : Int), rfl, by omega, by omega⟩), (fun _ => .inr ⟨gt, n8, by simp, l8, T7⟩), (kp f11), (kp f12), (fun h => absurd (upd_ne h (by decide)) (by rw [h17]; simp))⟩
          · obtain rfl := Option.some.inj ho
            have g10 := f10 (hd ⟨10, .data⟩ (by simp) rfl)
            have h17 : L 13 = false := by
              cases e : L 13
              · rfl
              · exact absurd (I1 e 11 (by decide)) (by rw [hL]; simp)
            obtain ⟨rd, gb⟩ := I0 h17
            obtain ⟨gt, n9, rfl, l9, T9⟩ := g10.resolve_left (by rw [h17]; simp)
            obtain ⟨q9, hq9, q91, q92⟩ := T9.2.2 n9 l9
            refine wpOp_step rfl (fun K' hK => ?_)
            go_simp
            refine hK _ _ ?_
            exact ⟨_, _, _, _, _, _, _, _, _, _, _, _, _, rfl, (fun _ => ⟨by rw [upd_other (by decide), upd_other (by decide)]; exact rd, gb⟩), (upd_all I1 (by decide)), (kp f0), (kp f1), (kp f2), (kp f3), (kp f4), (kp f5), (kp f6), (fun h => (f7 (upd_ne h (by decide))).imp (fun e => upd_mono e) id), (kp f8), (kp f9), (fun _ => .inr ⟨gt, n9, rfl, l9, T9⟩), (fun _ => ⟨q9, rfl, q91, q92⟩), (kp f12), (fun h => absurd (upd_ne h (by decide)) (by rw [h17]; simp))⟩
          · obtain rfl := Option.some.inj ho
            have g1 := f1 (hd ⟨1, .data⟩ (by simp) rfl)
            have g3 := f3 (hd ⟨3, .data⟩ (by simp) rfl)
            subst g1
            have h17 : L 13 = false := by
              cases e : L 13
              · rfl
              · exact absurd (I1 e 12 (by decide)) (by rw [hL]; simp)
            obtain ⟨rd, gb⟩ := I0 h17
            obtain ⟨j, rfl, hj⟩ := g3
            have hj' : (j : Int) < 4 := by omega
            refine wpOp_step rfl (fun K' hK => ?_)
            go_simp
            refine hK _ _ ?_
            exact ⟨_, _, _, _, _, _, _, _, _, _, _, _, _, rfl, (fun _ => ⟨by rw [upd_other (by decide), upd_other (by decide)]; exact rd, gb⟩), (upd_all I1 (by decide)), (kp f0), (kp f1), (kp f2), (fun _ => ⟨j, rfl, hj⟩), (kp f4), (kp f5), (kp f6), (fun h => (f7 (upd_ne h (by decide))).imp (fun e => upd_mono e) id), (kp f8), (kp f9), (fun h => (f10 (upd_ne h (by decide))).imp (fun e => upd_mono e) id), (kp f11), (fun _ => ⟨j, by simp, hj⟩), (fun h => absurd (upd_ne h (by decide)) (by rw [h17]; simp))⟩
          · obtain rfl := Option.some.inj ho
            have g11 := f11 (hd ⟨11, .data⟩ (by simp) rfl)
            have g12 := f12 (hd ⟨12, .data⟩ (by simp) rfl)
            obtain ⟨rd, gb⟩ := I0 hL
            obtain ⟨j, rfl, hj⟩ := g12
            obtain ⟨q, rfl, q1, q2⟩ := g11
            have h3 := hd ⟨3, .phase⟩ (by simp) rfl
            have h9 := hd ⟨9, .chain⟩ (by simp) rfl
            have SP := SR.out.pick rd gb
            obtain ⟨xo, hxo, cr⟩ := SP.own.roots.cell_at (j := j) hj
            have fz : ww.frozen? ⟨gR, j, none⟩ = false := SP.own.roots.frozen HM.out j
            clear SP hxo
            refine wpOp_step rfl (fun K' hK => ?_)
            go_simp
            refine hK _ _ ?_
            exact ⟨_, _, _, _, _, _, _, _, _, _, _, _, _, rfl, (fun h => absurd h (by rw [upd_self]; simp)), (fun _ q hq => upd_mono (by
              have hq17 : q = 0 ∨ q = 1 ∨ q = 2 ∨ q = 3 ∨ q = 4 ∨ q = 5 ∨ q = 6 ∨ q = 7 ∨ q = 8 ∨ q = 9 ∨ q = 10 ∨ q = 11 ∨ q = 12 := by omega
              rcases hq17 with rfl | rfl | rfl | rfl | rfl | rfl | rfl | rfl | rfl | rfl | rfl | rfl | rfl
              · exact hd ⟨0, .phase⟩ (by simp) rfl
              · exact hd ⟨1, .phase⟩ (by simp) rfl
              · exact hd ⟨2, .phase⟩ (by simp) rfl
              · exact hd ⟨3, .phase⟩ (by simp) rfl
              · exact hd ⟨4, .phase⟩ (by simp) rfl
              · exact hd ⟨5, .phase⟩ (by simp) rfl
              · exact hd ⟨6, .phase⟩ (by simp) rfl
              · exact hd ⟨7, .phase⟩ (by simp) rfl
              · exact hd ⟨8, .phase⟩ (by simp) rfl
              · exact hd ⟨9, .phase⟩ (by simp) rfl
              · exact hd ⟨10, .phase⟩ (by simp) rfl
              · exact hd ⟨11, .data⟩ (by simp) rfl
              · exact hd ⟨12, .data⟩ (by simp) rfl)), (kp f0), (kp f1), (kp f2), (kp f3), (kp f4), (kp f5), (kp f6), (fun _ => .inl upd_self), (kp f8), (kp f9), (fun _ => .inl upd_self), (fun _ => ⟨q, rfl, q1, q2⟩), (fun _ => ⟨j, rfl, hj⟩), (fun _ => ⟨j, q, ww, hj, q1, q2, rfl, rd.more (by rw [h3, h9]; simp), gb⟩)⟩
        case hdone =>
          rintro L ac ww hall ⟨t107, t108, t109, t110, t111, t112, t113, t114, t115, t116, t117, t118, t119, rfl, I0, I1, f0, f1, f2, f3, f4, f5, f6, f7, f8, f9, f10, f11, f12, f13⟩
          have e0 := f0 (hall 0 (by decide))
          have e1 := f1 (hall 1 (by decide))
          have e2 := f2 (hall 2 (by decide))
          have e3 := f3 (hall 3 (by decide))
          have e4 := f4 (hall 4 (by decide))
          have e5 := f5 (hall 5 (by decide))
          have e6 := f6 (hall 6 (by decide))
          have e7 := f7 (hall 7 (by decide))
          have e8 := f8 (hall 8 (by decide))
          have e9 := f9 (hall 9 (by decide))
          have e10 := f10 (hall 10 (by decide))
          have e11 := f11 (hall 11 (by decide))
          have e12 := f12 (hall 12 (by decide))
          have e13 := f13 (hall 13 (by decide))
          clear f0 f1 f2 f3 f4 f5 f6 f7 f8 f9 f10 f11 f12 f13
          obtain ⟨j, q, w1, hj, q1, q2, rfl, rd1, gb1⟩ := e13
          have S := (SR.out.pick rd1 gb1).root (i := j) HM.out q
          have SM3 := Lib.hid (SM.out.setRoot (i := j) (x := q) (by omega))
          have r0 : (w1.setCell ⟨gR, j, none⟩ (.int .i64 q)).cell? ⟨b, 0, none⟩ = some (.slice A1 nn c1) := S.box.cell 0
          have r1 : (w1.setCell ⟨gR, j, none⟩ (.int .i64 q)).cell? ⟨b, 1, none⟩ = some (.slice (some ⟨gR, 0, none⟩) 4 d1) := S.box.cell 1
          have r2 : (w1.setCell ⟨gR, j, none⟩ (.int .i64 q)).frozen? ⟨w.heap.size, 0, none⟩ = false := S.res.frozen 0
          have r3 : (w1.setCell ⟨gR, j, none⟩ (.int .i64 q)).frozen? ⟨w.heap.size, 1, none⟩ = false := S.res.frozen 1
          have r4 : (w1.setCell ⟨gR, j, none⟩ (.int .i64 q)).cell? ⟨w.heap.size, 0, none⟩ = some (.slice none 0 0) := S.res.cell 0
          have r5 : (w1.setCell ⟨gR, j, none⟩ (.int .i64 q)).cell? ⟨w.heap.size, 1, none⟩ = some (.slice none 0 0) := S.res.cell 1
          have r6 : (((w1.setCell ⟨gR, j, none⟩ (.int .i64 q)).setCell ⟨w.heap.size, 0, none⟩ (.slice A1 nn c1)).setCell ⟨w.heap.size, 1, none⟩ (.slice (some ⟨gR, 0, none⟩) 4 d1)).cell? ⟨w.heap.size, 0, none⟩ = some (.slice A1 nn c1) := ((S.res.put 0 (.slice A1 nn c1)).put 1 (.slice (some ⟨gR, 0, none⟩) 4 d1)).cell 0
          have r7 : (((w1.setCell ⟨gR, j, none⟩ (.int .i64 q)).setCell ⟨w.heap.size, 0, none⟩ (.slice A1 nn c1)).setCell ⟨w.heap.size, 1, none⟩ (.slice (some ⟨gR, 0, none⟩) 4 d1)).cell? ⟨w.heap.size, 1, none⟩ = some (.slice (some ⟨gR, 0, none⟩) 4 d1) := ((S.res.put 0 (.slice A1 nn c1)).put 1 (.slice (some ⟨gR, 0, none⟩) 4 d1)).cell 1
          have FI := Lib.hid (S.fin (.slice A1 nn c1) (.slice (some ⟨gR, 0, none⟩) 4 d1))
          have CAP := Lib.hid S.own.caps.2.2
          clear S SR e0 e1 e2 e3 e4 e5 e6 e7 e8 e9 e10 e11 e12 I0 I1 x0 x1 fb0 fb1
          go_wp2_with fail
          exact bodyPost_ret (v := .agg #[.slice A1 nn c1, .slice (some ⟨gR, 0, none⟩) 4 d1]) (by simp [results, Tryd.results56, go_sem, *]) rfl ⟨A1, nn, c1, some ⟨gR, 0, none⟩, 4, d1, ⟨h1.cs, h1.rt.set j q⟩, rfl, CAP.out.1, CAP.out.2, FI.out.1, fun h => absurd h hn1, SM3.out, FI.out.2.1.more (by omega), FI.out.2.2⟩
      · have own' := World.ownsRow.alloc S.own.row (.cells #[.bool false, .int .i64 5, .slice none 0 0] 40)
        rw [HN.out] at own'
        have rr := Rw.new w6 40 #[.bool false, .int .i64 5, .slice none 0 0]
        have SB := S.alloc (.cells #[.bool false, .int .i64 5, .slice none 0 0] 40)
        have hsz1 : w.heap.size + 1 ≤ w6.heap.size := by have := S.box.lt; omega
        have GO := Lib.hid (fun v9 w9 (g9 : (w6.alloc (.cells #[.bool false, .int .i64 5, .slice none 0 0] 40)).grownBy w9 (Value.slice A1 nn c1).ownBlock) o9 s9 => SB.snoc (cl := ⟨false, 5, []⟩) (v9 := v9) (v8 := .slice none 0 0) (w1 := w9) g9 (by rw [HN.out]; exact o9) s9 (World.ownsRow_nil _ _ _ _))
        have FB := Lib.hid (fun w9 (g9 : (w6.alloc (.cells #[.bool false, .int .i64 5, .slice none 0 0] 40)).grownBy w9 (Value.slice A1 nn c1).ownBlock) => Rw.far SB.box g9 (fun e => by
          rcases SB.apart _ (List.mem_cons_self) with e' | e'
          · rw [e'] at e; cases e
          · exact e' e.symm))
        clear S SB
        go_upto_region 22 with (at_builtin; go_must (refine wpList_appendC rfl (.tmp 123) (.tmp 125) rfl (w.heap.size + 1) _ nn (flatC h1.cs rvs1) rfl own' (w6.heap.size) false 5 none 0 0 rfl rr (by omega) (by simp; omega) ?_; intro v9 w9 A9 c9 e9 o9 g9 s9; subst e9; have SN := GO.out _ w9 g9 o9 s9 (fun _ _ => .inl rfl) (by simp [Value.ownBlock]); have z9 := (FB.out w9 g9).cell 0; have f9 := (FB.out w9 g9).frozen 0; clear o9 g9 s9))
        generalize w9.setCell ⟨b, 0, none⟩ (.slice A9 (nn + 1) c9) = w10 at SN ⊢
        clear z9 f9 GO FB own' rr x0 x1 fb0 fb1
        have hdv : SmallH ⟨h1.cs ++ [⟨false, 5, []⟩], h1.rt⟩ := SM.out.snoc (by rw [HN.out]; exact hn40) (by simp) (by show -1 ≤ (5 : Int) ∧ (5 : Int) ≤ 100; omega) (fun x hx => by simp at hx)
        have r0 : (w10).cell? ⟨b, 0, none⟩ = some (.slice A9 (nn + 1) c9) := SN.box.cell 0
        have r1 : (w10).cell? ⟨b, 1, none⟩ = some (.slice (some ⟨gR, 0, none⟩) 4 d1) := SN.box.cell 1
        have r2 : (w10).frozen? ⟨w.heap.size, 0, none⟩ = false := SN.res.frozen 0
        have r3 : (w10).frozen? ⟨w.heap.size, 1, none⟩ = false := SN.res.frozen 1
        have r4 : (w10).cell? ⟨w.heap.size, 0, none⟩ = some (.slice none 0 0) := SN.res.cell 0
        have r5 : (w10).cell? ⟨w.heap.size, 1, none⟩ = some (.slice none 0 0) := SN.res.cell 1
        have r6 : (((w10).setCell ⟨w.heap.size, 0, none⟩ (.slice A9 (nn + 1) c9)).setCell ⟨w.heap.size, 1, none⟩ (.slice (some ⟨gR, 0, none⟩) 4 d1)).cell? ⟨w.heap.size, 0, none⟩ = some (.slice A9 (nn + 1) c9) := ((SN.res.put 0 (.slice A9 (nn + 1) c9)).put 1 (.slice (some ⟨gR, 0, none⟩) 4 d1)).cell 0
        have r7 : (((w10).setCell ⟨w.heap.size, 0, none⟩ (.slice A9 (nn + 1) c9)).setCell ⟨w.heap.size, 1, none⟩ (.slice (some ⟨gR, 0, none⟩) 4 d1)).cell? ⟨w.heap.size, 1, none⟩ = some (.slice (some ⟨gR, 0, none⟩) 4 d1) := ((SN.res.put 0 (.slice A9 (nn + 1) c9)).put 1 (.slice (some ⟨gR, 0, none⟩) 4 d1)).cell 1
        have FI := Lib.hid (SN.fin (.slice A9 (nn + 1) c9) (.slice (some ⟨gR, 0, none⟩) 4 d1))
        have CAP := Lib.hid SN.own.caps.2.2
        have SM2 := Lib.hid hdv
        clear SN hdv
        go_wp2_with fail
        exact bodyPost_ret (v := .agg #[.slice A9 (nn + 1) c9, .slice (some ⟨gR, 0, none⟩) 4 d1]) (by simp [results, Tryd.results56, go_sem, *]) rfl ⟨A9, nn + 1, c9, some ⟨gR, 0, none⟩, 4, d1, ⟨h1.cs ++ [⟨false, 5, []⟩], h1.rt⟩, rfl, CAP.out.1, CAP.out.2, FI.out.1, fun h => absurd h hn1, SM2.out, FI.out.2.1.more (by omega), FI.out.2.2⟩
      · have hbl := S.box.lt
        have hsz0 : w.heap.size + 1 ≤ w6.heap.size := by omega
        have HAP := Lib.hid (show ∀ v ∈ (Value.slice A1 nn c1) :: (Value.slice (some ⟨gR, 0, none⟩) 4 d1) :: rvs1, (.slice (some ⟨w6.heap.size, 0, none⟩) 1 1 : Value).ownBlock = none ∨ (.slice (some ⟨w6.heap.size, 0, none⟩) 1 1 : Value).ownBlock ≠ v.ownBlock from fun v hv => .inr (fun e => by
          have := (S.own.blocks (k := w6.heap.size) hv e.symm).2
          omega))
        have H8B := Lib.hid (show (.slice (some ⟨w6.heap.size, 0, none⟩) 1 1 : Value).ownBlock ≠ some b from fun e => by
          have : w6.heap.size = b := Option.some.inj e
          omega)
        have O8 := Lib.hid (own_oneI w6 ((nn : Int) + 1) (w.heap.size + 1) hsz0)
        replace S := S.alloc (.cells #[.int .i64 ((nn : Int) + 1)] 3)
        have hw : IntKind.i64.wrap ((nn : Int) + 1) = (nn : Int) + 1 := IntWalk.i64_in _ (by omega)
        have own' := World.ownsRow.alloc S.own.row (.cells #[.bool true, .int .i64 0, .slice (some ⟨w6.heap.size, 0, none⟩) 1 1] 40)
        rw [HN.out] at own'
        have rr := Rw.new (w6.alloc (.cells #[.int .i64 ((nn : Int) + 1)] 3)) 40 #[.bool true, .int .i64 0, .slice (some ⟨w6.heap.size, 0, none⟩) 1 1]
        have SB := S.alloc (.cells #[.bool true, .int .i64 0, .slice (some ⟨w6.heap.size, 0, none⟩) 1 1] 40)
        have hsz1 : w.heap.size + 1 ≤ (w6.alloc (.cells #[.int .i64 ((nn : Int) + 1)] 3)).heap.size := by have := S.box.lt; omega
        have GO := Lib.hid (fun v9 w9 (g9 : ((w6.alloc (.cells #[.int .i64 ((nn : Int) + 1)] 3)).alloc (.cells #[.bool true, .int .i64 0, .slice (some ⟨w6.heap.size, 0, none⟩) 1 1] 40)).grownBy w9 (Value.slice A1 nn c1).ownBlock) o9 s9 => SB.snoc (cl := ⟨true, 0, [(nn : Int) + 1]⟩) (v9 := v9) (v8 := .slice (some ⟨w6.heap.size, 0, none⟩) 1 1) (w1 := w9) g9 (by rw [HN.out]; exact o9) s9 (World.ownsRow.alloc O8.out _))
        have FB := Lib.hid (fun w9 (g9 : ((w6.alloc (.cells #[.int .i64 ((nn : Int) + 1)] 3)).alloc (.cells #[.bool true, .int .i64 0, .slice (some ⟨w6.heap.size, 0, none⟩) 1 1] 40)).grownBy w9 (Value.slice A1 nn c1).ownBlock) => Rw.far SB.box g9 (fun e => by
          rcases SB.apart _ (List.mem_cons_self) with e' | e'
          · rw [e'] at e; cases e
          · exact e' e.symm))
        rw [World.size_alloc] at rr
        clear S SB
        go_upto_region 22 with (at_builtin; go_must (refine wpList_appendC rfl (.tmp 131) (.tmp 138) rfl (w.heap.size + 1) _ nn (flatC h1.cs rvs1) rfl own' (w6.heap.size + 1) true 0 (some ⟨w6.heap.size, 0, none⟩) 1 1 rfl rr (by omega) (by simp; omega) ?_; intro v9 w9 A9 c9 e9 o9 g9 s9; subst e9; have SN := GO.out _ w9 g9 o9 s9 HAP.out H8B.out; have z9 := (FB.out w9 g9).cell 0; have f9 := (FB.out w9 g9).frozen 0; clear o9 g9 s9))
        generalize w9.setCell ⟨b, 0, none⟩ (.slice A9 (nn + 1) c9) = w10 at SN ⊢
        clear z9 f9 GO FB own' rr x0 x1 fb0 fb1
        have hdv : SmallH ⟨h1.cs ++ [⟨true, 0, [(nn : Int) + 1]⟩], h1.rt⟩ := SM.out.snoc (by rw [HN.out]; exact hn40) (by simp) (by show -1 ≤ (0 : Int) ∧ (0 : Int) ≤ 100; omega) (fun x hx => by simp at hx; omega)
        have r0 : (w10).cell? ⟨b, 0, none⟩ = some (.slice A9 (nn + 1) c9) := SN.box.cell 0
        have r1 : (w10).cell? ⟨b, 1, none⟩ = some (.slice (some ⟨gR, 0, none⟩) 4 d1) := SN.box.cell 1
        have r2 : (w10).frozen? ⟨w.heap.size, 0, none⟩ = false := SN.res.frozen 0
        have r3 : (w10).frozen? ⟨w.heap.size, 1, none⟩ = false := SN.res.frozen 1
        have r4 : (w10).cell? ⟨w.heap.size, 0, none⟩ = some (.slice none 0 0) := SN.res.cell 0
        have r5 : (w10).cell? ⟨w.heap.size, 1, none⟩ = some (.slice none 0 0) := SN.res.cell 1
        have r6 : (((w10).setCell ⟨w.heap.size, 0, none⟩ (.slice A9 (nn + 1) c9)).setCell ⟨w.heap.size, 1, none⟩ (.slice (some ⟨gR, 0, none⟩) 4 d1)).cell? ⟨w.heap.size, 0, none⟩ = some (.slice A9 (nn + 1) c9) := ((SN.res.put 0 (.slice A9 (nn + 1) c9)).put 1 (.slice (some ⟨gR, 0, none⟩) 4 d1)).cell 0
        have r7 : (((w10).setCell ⟨w.heap.size, 0, none⟩ (.slice A9 (nn + 1) c9)).setCell ⟨w.heap.size, 1, none⟩ (.slice (some ⟨gR, 0, none⟩) 4 d1)).cell? ⟨w.heap.size, 1, none⟩ = some (.slice (some ⟨gR, 0, none⟩) 4 d1) := ((SN.res.put 0 (.slice A9 (nn + 1) c9)).put 1 (.slice (some ⟨gR, 0, none⟩) 4 d1)).cell 1
        have FI := Lib.hid (SN.fin (.slice A9 (nn + 1) c9) (.slice (some ⟨gR, 0, none⟩) 4 d1))
        have CAP := Lib.hid SN.own.caps.2.2
        have SM2 := Lib.hid hdv
        clear SN hdv
        go_wp2_with fail
        exact bodyPost_ret (v := .agg #[.slice A9 (nn + 1) c9, .slice (some ⟨gR, 0, none⟩) 4 d1]) (by simp [results, Tryd.results56, go_sem, *]) rfl ⟨A9, nn + 1, c9, some ⟨gR, 0, none⟩, 4, d1, ⟨h1.cs ++ [⟨true, 0, [(nn : Int) + 1]⟩], h1.rt⟩, rfl, CAP.out.1, CAP.out.2, FI.out.1, fun h => absurd h hn1, SM2.out, FI.out.2.1.more (by omega), FI.out.2.2⟩
      · have SR := Lib.hid S
        clear S
        go_wp2_with fail
        refine wp_region_inv (by kernel_rfl) (by kernel_rfl) (fun L ac ww => ∃ t88 t89 t90 t91 t92 t93 t94 t95 t96 t97 t98 : Value, ac = { tmps := #[Value.pointer (some { block := gr, off := 0 }), Value.int IntKind.i64 n, undef, undef, Value.pointer (some { block := w.heap.size, off := 0 }), Value.pointer (some { block := b, off := 0 }), u6, u7, u8, u9, u10, u11, u12, u13, u14, u15, u16, u17, u18, u19, u20, u21, u22, u23, u24, u25, u26, u27, u28, u29, u30, u31, u32, u33, u34, u35, u36, u37, u38, u39, u40, u41, u42, u43, u44, u45, u46, u47, u48, u49, u50, u51, u52, u53, u54, u55, u56, u57, u58, u59, u60, u61, u62, u63, u64, u65, u66, u67, u68, u69, u70, u71, u72, u73, u74, u75, u76, u77, u78, u79, u80, u81, u82, Value.pointer (some { block := gr, off := 0 }), Value.int IntKind.i64 n, Value.bool true, Value.pointer (some { block := gr, off := 0 }), Value.int IntKind.i64 4, t88, t89, t90, t91, t92, t93, t94, t95, t96, t97, t98, Value.bool false, Value.bool false, u101, u102, u103, u104, Value.bool false, Value.bool false, u107, u108, u109, u110, u111, u112, u113, u114, u115, u116, u117, u118, u119, Value.bool false, Value.bool false, u122, u123, u124, u125, u126, u127, Value.bool false, Value.bool false, u130, u131, u132, u133, u134, u135, u136, u137, u138, u139, u140, u141], defers := [] } ∧ (L 9 = false → Rd ww gr (N + 617 + 1 + 1 + (L 4).toNat) ∧ w6.grownBy ww (some gr)) ∧ (L 9 = true → ∀ q, q < 9 → L q = true) ∧ (L 11 = true → L 9 = true ∧ L 10 = true) ∧ (L 1 = true → L 0 = true) ∧ (L 4 = true → L 3 = true) ∧ (L 5 = true → L 2 = true ∧ L 4 = true ∧ L 3 = true) ∧ (L 6 = true → L 5 = true ∧ L 2 = true ∧ L 4 = true ∧ L 3 = true) ∧ (L 7 = true → L 6 = true ∧ L 5 = true ∧ L 2 = true ∧ L 4 = true ∧ L 3 = true) ∧ (L 8 = true → L 7 = true ∧ L 6 = true ∧ L 5 = true ∧ L 2 = true ∧ L 4 = true ∧ L 3 = true) ∧ (L 0 = true → t88 = (.pointer (some ⟨b, 0, none⟩))) ∧ (L 1 = true → t89 = (.slice A1 nn c1)) ∧ (L 2 = true → L 9 = true ∨ TblOf ww gr 2 (-1) 100 t90) ∧ (L 3 = true → t91 = (.pointer (some ⟨gr, 0, none⟩))) ∧ (L 4 = true → IntIn 0 1 t92) ∧ (L 5 = true → L 9 = true ∨ PtrOf ww gr 2 (-1) 100 t93) ∧ (L 6 = true → IntIn (-1) 100 t94) ∧ (L 7 = true → ∃ q : Int, t95 = .agg #[.bool true, .int .i64 q, .slice none 0 0] ∧ -1 ≤ q ∧ q ≤ 100) ∧ (L 8 = true → L 9 = true ∨ ∃ (gs : Nat) (q : Int), t96 = .slice (some ⟨gs, 0, none⟩) 1 1 ∧ -1 ≤ q ∧ q ≤ 100 ∧ Rw ww gs 40 #[.bool true, .int .i64 q, .slice none 0 0]) ∧ (L 9 = true → L 11 = true ∨ ∃ (wa : World) (A9 : Option Addr) (c9 : Nat) (q : Int), t97 = .slice A9 (nn + 1) c9 ∧ -1 ≤ q ∧ q ≤ 100 ∧ Rd wa gr (N + 617 + 1 + 1 + 1) ∧ w6.grownBy wa (some gr) ∧ wa.grownBy ww (Value.slice A1 nn c1).ownBlock ∧ ww.ownsRow (w.heap.size + 1) 40 3 (.slice A9 (nn + 1) c9) (nn + 1) (flatC h1.cs rvs1 ++ [.bool true, .int .i64 q, .slice none 0 0]) ∧ ((Value.slice A9 (nn + 1) c9).ownBlock = (Value.slice A1 nn c1).ownBlock ∨ (Value.slice A9 (nn + 1) c9).ownBlock = some wa.heap.size)) ∧ (L 10 = true → t98 = (.pointer (some ⟨b, 0, none⟩))) ∧ (L 11 = true → ∃ (wa wb : World) (A9 : Option Addr) (c9 : Nat) (q : Int), ww = wb.setCell ⟨b, 0, none⟩ (.slice A9 (nn + 1) c9) ∧ -1 ≤ q ∧ q ≤ 100 ∧ Rd wa gr (N + 617 + 1 + 1 + 1) ∧ w6.grownBy wa (some gr) ∧ wa.grownBy wb (Value.slice A1 nn c1).ownBlock ∧ wb.ownsRow (w.heap.size + 1) 40 3 (.slice A9 (nn + 1) c9) (nn + 1) (flatC h1.cs rvs1 ++ [.bool true, .int .i64 q, .slice none 0 0]) ∧ ((Value.slice A9 (nn + 1) c9).ownBlock = (Value.slice A1 nn c1).ownBlock ∨ (Value.slice A9 (nn + 1) c9).ownBlock = some wa.heap.size))) ?h0 ?hstep ?hdone
        case h0 => exact ⟨_, _, _, _, _, _, _, _, _, _, _, rfl, fun _ => ⟨by simpa using SR.out.rd.below (Below.refl _ _).drew SR.out.rd.lt, grown_below (World.grownBy.refl _ _) (Below.refl _ _).drew⟩, fun h => absurd h Bool.false_ne_true, fun h => absurd h Bool.false_ne_true, fun h => absurd h Bool.false_ne_true, fun h => absurd h Bool.false_ne_true, fun h => absurd h Bool.false_ne_true, fun h => absurd h Bool.false_ne_true, fun h => absurd h Bool.false_ne_true, fun h => absurd h Bool.false_ne_true, (fun h => absurd h Bool.false_ne_true), (fun h => absurd h Bool.false_ne_true), (fun h => absurd h Bool.false_ne_true), (fun h => absurd h Bool.false_ne_true), (fun h => absurd h Bool.false_ne_true), (fun h => absurd h Bool.false_ne_true), (fun h => absurd h Bool.false_ne_true), (fun h => absurd h Bool.false_ne_true), (fun h => absurd h Bool.false_ne_true), (fun h => absurd h Bool.false_ne_true), (fun h => absurd h Bool.false_ne_true), (fun h => absurd h Bool.false_ne_true)⟩
        case hstep =>
          rintro L ac ww i o ho hL hd ⟨t88, t89, t90, t91, t92, t93, t94, t95, t96, t97, t98, rfl, I0, I1, I2, I3, I4, I5, I6, I7, I8, f0, f1, f2, f3, f4, f5, f6, f7, f8, f9, f10, f11⟩
          have hi : i < 12 := (Array.getElem?_eq_some_iff.1 ho).1
          obtain rfl | rfl | rfl | rfl | rfl | rfl | rfl | rfl | rfl | rfl | rfl | rfl : i = 0 ∨ i = 1 ∨ i = 2 ∨ i = 3 ∨ i = 4 ∨ i = 5 ∨ i = 6 ∨ i = 7 ∨ i = 8 ∨ i = 9 ∨ i = 10 ∨ i = 11 := by omega
          · obtain rfl := Option.some.inj ho
            have h17 : L 9 = false := by
              cases e : L 9
              · rfl
              · exact absurd (I1 e 0 (by decide)) (by rw [hL]; simp)
            have h18 : L 11 = false := by
              cases e : L 11
              · rfl
              · exact absurd (I2 e).1 (by rw [h17]; simp)
            obtain ⟨rd, gb⟩ := I0 h17
            refine wpOp_step rfl (fun K' hK => ?_)
            go_simp
            refine hK _ _ ?_
            exact ⟨_, _, _, _, _, _, _, _, _, _, _, rfl, (fun _ => ⟨by rw [upd_other (by decide)]; exact rd, gb⟩), (upd_all I1 (by decide)), (fun h => ⟨upd_mono (I2 (upd_ne h (by decide))).1, upd_mono (I2 (upd_ne h (by decide))).2⟩), (fun h => upd_mono (I3 (upd_ne h (by decide)))), (fun h => upd_mono (I4 (upd_ne h (by decide)))), (fun h => let p := I5 (upd_ne h (by decide)); ⟨upd_mono p.1, upd_mono p.2.1, upd_mono p.2.2⟩), (fun h => let p := I6 (upd_ne h (by decide)); ⟨upd_mono p.1, upd_mono p.2.1, upd_mono p.2.2.1, upd_mono p.2.2.2⟩), (fun h => let p := I7 (upd_ne h (by decide)); ⟨upd_mono p.1, upd_mono p.2.1, upd_mono p.2.2.1, upd_mono p.2.2.2.1, upd_mono p.2.2.2.2⟩), (fun h => let p := I8 (upd_ne h (by decide)); ⟨upd_mono p.1, upd_mono p.2.1, upd_mono p.2.2.1, upd_mono p.2.2.2.1, upd_mono p.2.2.2.2.1, upd_mono p.2.2.2.2.2⟩), (fun _ => by first | rfl | simp), (kp f1), (fun h => (f2 (upd_ne h (by decide))).imp (fun e => upd_mono e) id), (kp f3), (kp f4), (fun h => (f5 (upd_ne h (by decide))).imp (fun e => upd_mono e) id), (kp f6), (kp f7), (fun h => (f8 (upd_ne h (by decide))).imp (fun e => upd_mono e) id), (fun h => absurd (upd_ne h (by decide)) (by rw [h17]; simp)), (kp f10), (fun h => absurd (upd_ne h (by decide)) (by rw [h18]; simp))⟩
          · obtain rfl := Option.some.inj ho
            have g0 := f0 (hd ⟨0, .data⟩ (by simp) rfl)
            subst g0
            have h17 : L 9 = false := by
              cases e : L 9
              · rfl
              · exact absurd (I1 e 1 (by decide)) (by rw [hL]; simp)
            have h18 : L 11 = false := by
              cases e : L 11
              · rfl
              · exact absurd (I2 e).1 (by rw [h17]; simp)
            obtain ⟨rd, gb⟩ := I0 h17
            have y0 : ww.cell? ⟨b, 0, none⟩ = some (.slice A1 nn c1) := gb.cell x0 (fun e => by injection e with e; simp only at e; omega)
            have c0 := Lib.hid (hd ⟨0, .data⟩ (by simp) rfl)
            refine wpOp_step rfl (fun K' hK => ?_)
            go_simp
            refine hK _ _ ?_
            exact ⟨_, _, _, _, _, _, _, _, _, _, _, rfl, (fun _ => ⟨by rw [upd_other (by decide)]; exact rd, gb⟩), (upd_all I1 (by decide)), (fun h => ⟨upd_mono (I2 (upd_ne h (by decide))).1, upd_mono (I2 (upd_ne h (by decide))).2⟩), (fun _ => upd_mono c0.out), (fun h => upd_mono (I4 (upd_ne h (by decide)))), (fun h => let p := I5 (upd_ne h (by decide)); ⟨upd_mono p.1, upd_mono p.2.1, upd_mono p.2.2⟩), (fun h => let p := I6 (upd_ne h (by decide)); ⟨upd_mono p.1, upd_mono p.2.1, upd_mono p.2.2.1, upd_mono p.2.2.2⟩), (fun h => let p := I7 (upd_ne h (by decide)); ⟨upd_mono p.1, upd_mono p.2.1, upd_mono p.2.2.1, upd_mono p.2.2.2.1, upd_mono p.2.2.2.2⟩), (fun h => let p := I8 (upd_ne h (by decide)); ⟨upd_mono p.1, upd_mono p.2.1, upd_mono p.2.2.1, upd_mono p.2.2.2.1, upd_mono p.2.2.2.2.1, upd_mono p.2.2.2.2.2⟩), (kp f0), (fun _ => by first | rfl | simp), (fun h => (f2 (upd_ne h (by decide))).imp (fun e => upd_mono e) id), (kp f3), (kp f4), (fun h => (f5 (upd_ne h (by decide))).imp (fun e => upd_mono e) id), (kp f6), (kp f7), (fun h => (f8 (upd_ne h (by decide))).imp (fun e => upd_mono e) id), (fun h => absurd (upd_ne h (by decide)) (by rw [h17]; simp)), (kp f10), (fun h => absurd (upd_ne h (by decide)) (by rw [h18]; simp))⟩
          · obtain rfl := Option.some.inj ho
            have h17 : L 9 = false := by
              cases e : L 9
              · rfl
              · exact absurd (I1 e 2 (by decide)) (by rw [hL]; simp)
            have h18 : L 11 = false := by
              cases e : L 11
              · rfl
              · exact absurd (I2 e).1 (by rw [h17]; simp)
            obtain ⟨rd, gb⟩ := I0 h17
            refine wpOp_step rfl (fun K' hK => ?_)
            go_simp
            refine hK _ _ ?_
            exact ⟨_, _, _, _, _, _, _, _, _, _, _, rfl, (fun _ => ⟨by rw [upd_other (by decide)]; exact rd.below ((Below.refl ww.heap.size ww).alloc (Nat.le_refl _) _) rd.lt, World.grownBy.trans gb (World.grownBy_alloc _ _ _)⟩), (upd_all I1 (by decide)), (fun h => ⟨upd_mono (I2 (upd_ne h (by decide))).1, upd_mono (I2 (upd_ne h (by decide))).2⟩), (fun h => upd_mono (I3 (upd_ne h (by decide)))), (fun h => upd_mono (I4 (upd_ne h (by decide)))), (fun h => let p := I5 (upd_ne h (by decide)); ⟨upd_mono p.1, upd_mono p.2.1, upd_mono p.2.2⟩), (fun h => let p := I6 (upd_ne h (by decide)); ⟨upd_mono p.1, upd_mono p.2.1, upd_mono p.2.2.1, upd_mono p.2.2.2⟩), (fun h => let p := I7 (upd_ne h (by decide)); ⟨upd_mono p.1, upd_mono p.2.1, upd_mono p.2.2.1, upd_mono p.2.2.2.1, upd_mono p.2.2.2.2⟩), (fun h => let p := I8 (upd_ne h (by decide)); ⟨upd_mono p.1, upd_mono p.2.1, upd_mono p.2.2.1, upd_mono p.2.2.2.1, upd_mono p.2.2.2.2.1, upd_mono p.2.2.2.2.2⟩), (kp f0), (kp f1), (fun _ => .inr ⟨_, rfl, Tbl.new ww gr _ [-1, 100] (-1) 100 rd.lt (by intro q hq; simp at hq; omega) _ rfl⟩), (kp f3), (kp f4), (fun h => (f5 (upd_ne h (by decide))).imp (fun e => upd_mono e) (fun T => T.alloc _)), (kp f6), (kp f7), (fun h => (f8 (upd_ne h (by decide))).imp (fun e => upd_mono e) (fun ⟨gs, q, e, q1, q2, r⟩ => ⟨gs, q, e, q1, q2, r.alloc _⟩)), (fun h => absurd (upd_ne h (by decide)) (by rw [h17]; simp)), (kp f10), (fun h => absurd (upd_ne h (by decide)) (by rw [h18]; simp))⟩
          · obtain rfl := Option.some.inj ho
            have h17 : L 9 = false := by
              cases e : L 9
              · rfl
              · exact absurd (I1 e 3 (by decide)) (by rw [hL]; simp)
            have h18 : L 11 = false := by
              cases e : L 11
              · rfl
              · exact absurd (I2 e).1 (by rw [h17]; simp)
            obtain ⟨rd, gb⟩ := I0 h17
            refine wpOp_step rfl (fun K' hK => ?_)
            go_simp
            refine hK _ _ ?_
            exact ⟨_, _, _, _, _, _, _, _, _, _, _, rfl, (fun _ => ⟨by rw [upd_other (by decide)]; exact rd, gb⟩), (upd_all I1 (by decide)), (fun h => ⟨upd_mono (I2 (upd_ne h (by decide))).1, upd_mono (I2 (upd_ne h (by decide))).2⟩), (fun h => upd_mono (I3 (upd_ne h (by decide)))), (fun h => upd_mono (I4 (upd_ne h (by decide)))), (fun h => let p := I5 (upd_ne h (by decide)); ⟨upd_mono p.1, upd_mono p.2.1, upd_mono p.2.2⟩), (fun h => let p := I6 (upd_ne h (by decide)); ⟨upd_mono p.1, upd_mono p.2.1, upd_mono p.2.2.1, upd_mono p.2.2.2⟩), (fun h => let p := I7 (upd_ne h (by decide)); ⟨upd_mono p.1, upd_mono p.2.1, upd_mono p.2.2.1, upd_mono p.2.2.2.1, upd_mono p.2.2.2.2⟩), (fun h => let p := I8 (upd_ne h (by decide)); ⟨upd_mono p.1, upd_mono p.2.1, upd_mono p.2.2.1, upd_mono p.2.2.2.1, upd_mono p.2.2.2.2.1, upd_mono p.2.2.2.2.2⟩), (kp f0), (kp f1), (fun h => (f2 (upd_ne h (by decide))).imp (fun e => upd_mono e) id), (fun _ => by first | rfl | simp), (kp f4), (fun h => (f5 (upd_ne h (by decide))).imp (fun e => upd_mono e) id), (kp f6), (kp f7), (fun h => (f8 (upd_ne h (by decide))).imp (fun e => upd_mono e) id), (fun h => absurd (upd_ne h (by decide)) (by rw [h17]; simp)), (kp f10), (fun h => absurd (upd_ne h (by decide)) (by rw [h18]; simp))⟩
          · obtain rfl := Option.some.inj ho
            have g3 := f3 (hd ⟨3, .data⟩ (by simp) rfl)
            subst g3
            have h17 : L 9 = false := by
              cases e : L 9
              · rfl
              · exact absurd (I1 e 4 (by decide)) (by rw [hL]; simp)
            have h18 : L 11 = false := by
              cases e : L 11
              · rfl
              · exact absurd (I2 e).1 (by rw [h17]; simp)
            obtain ⟨rd, gb⟩ := I0 h17
            have c3 := Lib.hid (hd ⟨3, .data⟩ (by simp) rfl)
            refine wpOp_step rfl (fun K' hK => ?_)
            go_simp
            refine (pick_any gr _ 2 ww rd (by have := Bool.toNat_le (L 4); have := Bool.toNat_le (L 4); omega) (by omega)).mono ?_
            rintro e w' ⟨r, rfl, r0', r1', hr, G⟩
            refine hK _ _ ?_
            exact ⟨_, _, _, _, _, _, _, _, _, _, _, rfl, (fun _ => ⟨by rw [upd_self]; rw [hL] at hr; exact hr.more (by simp), World.grownBy.trans gb G⟩), (upd_all I1 (by decide)), (fun h => ⟨upd_mono (I2 (upd_ne h (by decide))).1, upd_mono (I2 (upd_ne h (by decide))).2⟩), (fun h => upd_mono (I3 (upd_ne h (by decide)))), (fun _ => upd_mono c3.out), (fun h => let p := I5 (upd_ne h (by decide)); ⟨upd_mono p.1, upd_mono p.2.1, upd_mono p.2.2⟩), (fun h => let p := I6 (upd_ne h (by decide)); ⟨upd_mono p.1, upd_mono p.2.1, upd_mono p.2.2.1, upd_mono p.2.2.2⟩), (fun h => let p := I7 (upd_ne h (by decide)); ⟨upd_mono p.1, upd_mono p.2.1, upd_mono p.2.2.1, upd_mono p.2.2.2.1, upd_mono p.2.2.2.2⟩), (fun h => let p := I8 (upd_ne h (by decide)); ⟨upd_mono p.1, upd_mono p.2.1, upd_mono p.2.2.1, upd_mono p.2.2.2.1, upd_mono p.2.2.2.2.1, upd_mono p.2.2.2.2.2⟩), (kp f0), (kp f1), (fun h => (f2 (upd_ne h (by decide))).imp (fun e => upd_mono e) (fun T => T.pick G)), (kp f3), (fun _ => ⟨r, rfl, r0', by omega⟩), (fun h => (f5 (upd_ne h (by decide))).imp (fun e => upd_mono e) (fun T => T.pick G)), (kp f6), (kp f7), (fun h => absurd (I8 (upd_ne h (by decide))).2.2.2.2.1 (by rw [hL]; simp)), (fun h => absurd (upd_ne h (by decide)) (by rw [h17]; simp)), (kp f10), (fun h => absurd (upd_ne h (by decide)) (by rw [h18]; simp))⟩
          · obtain rfl := Option.some.inj ho
            have g2 := f2 (hd ⟨2, .data⟩ (by simp) rfl)
            have g4 := f4 (hd ⟨4, .data⟩ (by simp) rfl)
            have h17 : L 9 = false := by
              cases e : L 9
              · rfl
              · exact absurd (I1 e 5 (by decide)) (by rw [hL]; simp)
            have h18 : L 11 = false := by
              cases e : L 11
              · rfl
              · exact absurd (I2 e).1 (by rw [h17]; simp)
            obtain ⟨rd, gb⟩ := I0 h17
            obtain ⟨gt, rfl, T7⟩ := g2.resolve_left (by rw [h17]; simp)
            obtain ⟨q8, rfl, q81, q82⟩ := g4
            obtain ⟨n8, rfl⟩ := Int.eq_ofNat_of_zero_le (show 0 ≤ q8 by omega)
            have l8 : n8 < 2 := by omega
            have l8' : (n8 : Int) < 2 := by omega
            have c2 := Lib.hid (hd ⟨2, .data⟩ (by simp) rfl)
            have c4 := Lib.hid (hd ⟨4, .data⟩ (by simp) rfl)
            have c3 := Lib.hid (I4 c4.out)
            refine wpOp_step rfl (fun K' hK => ?_)
            go_simp
            refine hK _ _ ?_
            exact ⟨_, _, _, _, _, _, _, _, _, _, _, rfl, (fun _ => ⟨by rw [upd_other (by decide)]; exact rd, gb⟩), (upd_all I1 (by decide)), (fun h => ⟨upd_mono (I2 (upd_ne h (by decide))).1, upd_mono (I2 (upd_ne h (by decide))).2⟩), (fun h => upd_mono (I3 (upd_ne h (by decide)))), (fun h => upd_mono (I4 (upd_ne h (by decide)))), (fun _ => ⟨upd_mono c2.out, upd_mono c4.out, upd_mono c3.out⟩), (fun h => let p := I6 (upd_ne h (by decide)); ⟨upd_mono p.1, upd_mono p.2.1, upd_mono p.2.2.1, upd_mono p.2.2.2⟩), (fun h => let p := I7 (upd_ne h (by decide)); ⟨upd_mono p.1, upd_mono p.2.1, upd_mono p.2.2.1, upd_mono p.2.2.2.1, upd_mono p.2.2.2.2⟩), (fun h => let p := I8 (upd_ne h (by decide)); ⟨upd_mono p.1, upd_mono p.2.1, upd_mono p.2.2.1, upd_mono p.2.2.2.1, upd_mono p.2.2.2.2.1, upd_mono p.2.2.2.2.2⟩), (kp f0), (kp f1), (fun _ => .inr ⟨gt, rfl, T7⟩), (kp f3), (fun _ => ⟨(n8 : Int), rfl, by omega, by omega⟩), (fun _ => .inr ⟨gt, n8, by simp, l8, T7⟩), (kp f6), (kp f7), (fun h => (f8 (upd_ne h (by decide))).imp (fun e => upd_mono e) id), (fun h => absurd (upd_ne h (by decide)) (by rw [h17]; simp)), (kp f10), (fun h => absurd (upd_ne h (by decide)) (by rw [h18]; simp))⟩
          · obtain rfl := Option.some.inj ho
            have g5 := f5 (hd ⟨5, .data⟩ (by simp) rfl)
            have h17 : L 9 = false := by
              cases e : L 9
              · rfl
              · exact absurd (I1 e 6 (by decide)) (by rw [hL]; simp)
            have h18 : L 11 = false := by
              cases e : L 11
              · rfl
              · exact absurd (I2 e).1 (by rw [h17]; simp)
            obtain ⟨rd, gb⟩ := I0 h17
            obtain ⟨gt, n9, rfl, l9, T9⟩ := g5.resolve_left (by rw [h17]; simp)
            obtain ⟨q9, hq9, q91, q92⟩ := T9.2.2 n9 l9
            have c5 := Lib.hid (hd ⟨5, .data⟩ (by simp) rfl)
            have cp := I5 c5.out
            have c2 := Lib.hid cp.1
            have c4 := Lib.hid cp.2.1
            have c3 := Lib.hid cp.2.2
            clear cp
            refine wpOp_step rfl (fun K' hK => ?_)
            go_simp
            refine hK _ _ ?_
            exact ⟨_, _, _, _, _, _, _, _, _, _, _, rfl, (fun _ => ⟨by rw [upd_other (by decide)]; exact rd, gb⟩), (upd_all I1 (by decide)), (fun h => ⟨upd_mono (I2 (upd_ne h (by decide))).1, upd_mono (I2 (upd_ne h (by decide))).2⟩), (fun h => upd_mono (I3 (upd_ne h (by decide)))), (fun h => upd_mono (I4 (upd_ne h (by decide)))), (fun h => let p := I5 (upd_ne h (by decide)); ⟨upd_mono p.1, upd_mono p.2.1, upd_mono p.2.2⟩), (fun _ => ⟨upd_mono c5.out, upd_mono c2.out, upd_mono c4.out, upd_mono c3.out⟩), (fun h => let p := I7 (upd_ne h (by decide)); ⟨upd_mono p.1, upd_mono p.2.1, upd_mono p.2.2.1, upd_mono p.2.2.2.1, upd_mono p.2.2.2.2⟩), (fun h => let p := I8 (upd_ne h (by decide)); ⟨upd_mono p.1, upd_mono p.2.1, upd_mono p.2.2.1, upd_mono p.2.2.2.1, upd_mono p.2.2.2.2.1, upd_mono p.2.2.2.2.2⟩), (kp f0), (kp f1), (fun h => (f2 (upd_ne h (by decide))).imp (fun e => upd_mono e) id), (kp f3), (kp f4), (fun _ => .inr ⟨gt, n9, rfl, l9, T9⟩), (fun _ => ⟨q9, rfl, q91, q92⟩), (kp f7), (fun h => (f8 (upd_ne h (by decide))).imp (fun e => upd_mono e) id), (fun h => absurd (upd_ne h (by decide)) (by rw [h17]; simp)), (kp f10), (fun h => absurd (upd_ne h (by decide)) (by rw [h18]; simp))⟩
          · obtain rfl := Option.some.inj ho
            have g6 := f6 (hd ⟨6, .data⟩ (by simp) rfl)
            have h17 : L 9 = false := by
              cases e : L 9
              · rfl
              · exact absurd (I1 e 7 (by decide)) (by rw [hL]; simp)
            have h18 : L 11 = false := by
              cases e : L 11
              · rfl
              · exact absurd (I2 e).1 (by rw [h17]; simp)
            obtain ⟨rd, gb⟩ := I0 h17
            obtain ⟨q, rfl, q1, q2⟩ := g6
            have c6 := Lib.hid (hd ⟨6, .data⟩ (by simp) rfl)
            have cp := I6 c6.out
            have c5 := Lib.hid cp.1
            have c2 := Lib.hid cp.2.1
            have c4 := Lib.hid cp.2.2.1
            have c3 := Lib.hid cp.2.2.2
            clear cp
            refine wpOp_step rfl (fun K' hK => ?_)
            go_simp
            refine hK _ _ ?_
            exact ⟨_, _, _, _, _, _, _, _, _, _, _, rfl, (fun _ => ⟨by rw [upd_other (by decide)]; exact rd, gb⟩), (upd_all I1 (by decide)), (fun h => ⟨upd_mono (I2 (upd_ne h (by decide))).1, upd_mono (I2 (upd_ne h (by decide))).2⟩), (fun h => upd_mono (I3 (upd_ne h (by decide)))), (fun h => upd_mono (I4 (upd_ne h (by decide)))), (fun h => let p := I5 (upd_ne h (by decide)); ⟨upd_mono p.1, upd_mono p.2.1, upd_mono p.2.2⟩), (fun h => let p := I6 (upd_ne h (by decide)); ⟨upd_mono p.1, upd_mono p.2.1, upd_mono p.2.2.1, upd_mono p.2.2.2⟩), (fun _ => ⟨upd_mono c6.out, upd_mono c5.out, upd_mono c2.out, upd_mono c4.out, upd_mono c3.out⟩), (fun h => let p := I8 (upd_ne h (by decide)); ⟨upd_mono p.1, upd_mono p.2.1, upd_mono p.2.2.1, upd_mono p.2.2.2.1, upd_mono p.2.2.2.2.1, upd_mono p.2.2.2.2.2⟩), (kp f0), (kp f1), (fun h => (f2 (upd_ne h (by decide))).imp (fun e => upd_mono e) id), (kp f3), (kp f4), (fun h => (f5 (upd_ne h (by decide))).imp (fun e => upd_mono e) id), (fun _ => ⟨q, rfl, q1, q2⟩), (fun _ => ⟨q, rfl, q1, q2⟩), (fun h => (f8 (upd_ne h (by decide))).imp (fun e => upd_mono e) id), (fun h => absurd (upd_ne h (by decide)) (by rw [h17]; simp)), (kp f10), (fun h => absurd (upd_ne h (by decide)) (by rw [h18]; simp))⟩
          · obtain rfl := Option.some.inj ho
            have g7 := f7 (hd ⟨7, .data⟩ (by simp) rfl)
            have h17 : L 9 = false := by
              cases e : L 9
              · rfl
              · exact absurd (I1 e 8 (by decide)) (by rw [hL]; simp)
            have h18 : L 11 = false := by
              cases e : L 11
              · rfl
              · exact absurd (I2 e).1 (by rw [h17]; simp)
            obtain ⟨rd, gb⟩ := I0 h17
            obtain ⟨q, rfl, q1, q2⟩ := g7
            have c7 := Lib.hid (hd ⟨7, .data⟩ (by simp) rfl)
            have cp := I7 c7.out
            have c6 := Lib.hid cp.1
            have c5 := Lib.hid cp.2.1
            have c2 := Lib.hid cp.2.2.1
            have c4 := Lib.hid cp.2.2.2.1
            have c3 := Lib.hid cp.2.2.2.2
            clear cp
            refine wpOp_step rfl (fun K' hK => ?_)
            go_simp
            refine hK _ _ ?_
            exact ⟨_, _, _, _, _, _, _, _, _, _, _, rfl, (fun _ => ⟨by rw [upd_other (by decide)]; exact rd.below ((Below.refl ww.heap.size ww).alloc (Nat.le_refl _) _) rd.lt, World.grownBy.trans gb (World.grownBy_alloc _ _ _)⟩), (upd_all I1 (by decide)), (fun h => ⟨upd_mono (I2 (upd_ne h (by decide))).1, upd_mono (I2 (upd_ne h (by decide))).2⟩), (fun h => upd_mono (I3 (upd_ne h (by decide)))), (fun h => upd_mono (I4 (upd_ne h (by decide)))), (fun h => let p := I5 (upd_ne h (by decide)); ⟨upd_mono p.1, upd_mono p.2.1, upd_mono p.2.2⟩), (fun h => let p := I6 (upd_ne h (by decide)); ⟨upd_mono p.1, upd_mono p.2.1, upd_mono p.2.2.1, upd_mono p.2.2.2⟩), (fun h => let p := I7 (upd_ne h (by decide)); ⟨upd_mono p.1, upd_mono p.2.1, upd_mono p.2.2.1, upd_mono p.2.2.2.1, upd_mono p.2.2.2.2⟩), (fun _ => ⟨upd_mono c7.out, upd_mono c6.out, upd_mono c5.out, upd_mono c2.out, upd_mono c4.out, upd_mono c3.out⟩), (kp f0), (kp f1), (fun h => (f2 (upd_ne h (by decide))).imp (fun e => upd_mono e) (fun T => T.alloc _)), (kp f3), (kp f4), (fun h => (f5 (upd_ne h (by decide))).imp (fun e => upd_mono e) (fun T => T.alloc _)), (kp f6), (fun _ => ⟨q, rfl, q1, q2⟩), (fun _ => .inr ⟨_, q, rfl, q1, q2, Rw.new _ _ _⟩), (fun h => absurd (upd_ne h (by decide)) (by rw [h17]; simp)), (kp f10), (fun h => absurd (upd_ne h (by decide)) (by rw [h18]; simp))⟩
          · obtain rfl := Option.some.inj ho
            have g1 := f1 (hd ⟨1, .data⟩ (by simp) rfl)
            have g8 := f8 (hd ⟨8, .data⟩ (by simp) rfl)
            subst g1
            obtain ⟨rd, gb⟩ := I0 hL
            have h18 : L 11 = false := by
              cases e : L 11
              · rfl
              · exact absurd (I2 e).1 (by rw [hL]; simp)
            have h4 := hd ⟨4, .chain⟩ (by simp) rfl
            obtain ⟨gs, q, rfl, q1, q2, hz⟩ := g8.resolve_left (by rw [hL]; simp)
            have SP := SR.out.pick rd gb
            have own9 := SP.own.row
            rw [HN.out] at own9
            have hb9 : w.heap.size + 1 ≤ ww.heap.size := by have := SP.box.lt; omega
            have c1 := Lib.hid (hd ⟨1, .data⟩ (by simp) rfl)
            have c8 := Lib.hid (hd ⟨8, .data⟩ (by simp) rfl)
            have c0 := Lib.hid (I3 c1.out)
            have cp := I8 c8.out
            have c7 := Lib.hid cp.1
            have c6 := Lib.hid cp.2.1
            have c5 := Lib.hid cp.2.2.1
            have c2 := Lib.hid cp.2.2.2.1
            have c4 := Lib.hid cp.2.2.2.2.1
            have c3 := Lib.hid cp.2.2.2.2.2
            clear cp
            refine wpOp_step rfl (fun K' hK => ?_)
            refine app_stepC rfl (.tmp 89) (.tmp 96) rfl (w.heap.size + 1) _ nn (flatC h1.cs rvs1) rfl own9 gs true q none 0 0 rfl hz (by omega) hb9 ?_
            intro v' w' A9 c9 e9 o9 G9 s9
            subst e9
            refine hK _ _ ?_
            exact ⟨_, _, _, _, _, _, _, _, _, _, _, rfl, (fun h => absurd h (by rw [upd_self]; simp)), (fun _ q hq => upd_mono (by
              have hq17 : q = 0 ∨ q = 1 ∨ q = 2 ∨ q = 3 ∨ q = 4 ∨ q = 5 ∨ q = 6 ∨ q = 7 ∨ q = 8 := by omega
              rcases hq17 with rfl | rfl | rfl | rfl | rfl | rfl | rfl | rfl | rfl
              · exact c0.out
              · exact c1.out
              · exact c2.out
              · exact c3.out
              · exact c4.out
              · exact c5.out
              · exact c6.out
              · exact c7.out
              · exact c8.out)), (fun h => ⟨upd_mono (I2 (upd_ne h (by decide))).1, upd_mono (I2 (upd_ne h (by decide))).2⟩), (fun h => upd_mono (I3 (upd_ne h (by decide)))), (fun h => upd_mono (I4 (upd_ne h (by decide)))), (fun h => let p := I5 (upd_ne h (by decide)); ⟨upd_mono p.1, upd_mono p.2.1, upd_mono p.2.2⟩), (fun h => let p := I6 (upd_ne h (by decide)); ⟨upd_mono p.1, upd_mono p.2.1, upd_mono p.2.2.1, upd_mono p.2.2.2⟩), (fun h => let p := I7 (upd_ne h (by decide)); ⟨upd_mono p.1, upd_mono p.2.1, upd_mono p.2.2.1, upd_mono p.2.2.2.1, upd_mono p.2.2.2.2⟩), (fun h => let p := I8 (upd_ne h (by decide)); ⟨upd_mono p.1, upd_mono p.2.1, upd_mono p.2.2.1, upd_mono p.2.2.2.1, upd_mono p.2.2.2.2.1, upd_mono p.2.2.2.2.2⟩), (kp f0), (kp f1), (fun _ => .inl upd_self), (kp f3), (kp f4), (fun _ => .inl upd_self), (kp f6), (kp f7), (fun _ => .inl upd_self), (fun _ => .inr ⟨ww, A9, c9, q, rfl, q1, q2, rd.more (by rw [h4]; simp), gb, G9, o9, s9⟩), (kp f10), (fun h => absurd (upd_ne h (by decide)) (by rw [h18]; simp))⟩
          · obtain rfl := Option.some.inj ho
            refine wpOp_step rfl (fun K' hK => ?_)
            go_simp
            refine hK _ _ ?_
            exact ⟨_, _, _, _, _, _, _, _, _, _, _, rfl, (fun h => ⟨by rw [upd_other (by decide)]; exact (I0 (by rw [upd_other (by decide)] at h; exact h)).1, (I0 (by rw [upd_other (by decide)] at h; exact h)).2⟩), (upd_all I1 (by decide)), (fun h => ⟨upd_mono (I2 (upd_ne h (by decide))).1, upd_mono (I2 (upd_ne h (by decide))).2⟩), (fun h => upd_mono (I3 (upd_ne h (by decide)))), (fun h => upd_mono (I4 (upd_ne h (by decide)))), (fun h => let p := I5 (upd_ne h (by decide)); ⟨upd_mono p.1, upd_mono p.2.1, upd_mono p.2.2⟩), (fun h => let p := I6 (upd_ne h (by decide)); ⟨upd_mono p.1, upd_mono p.2.1, upd_mono p.2.2.1, upd_mono p.2.2.2⟩), (fun h => let p := I7 (upd_ne h (by decide)); ⟨upd_mono p.1, upd_mono p.2.1, upd_mono p.2.2.1, upd_mono p.2.2.2.1, upd_mono p.2.2.2.2⟩), (fun h => let p := I8 (upd_ne h (by decide)); ⟨upd_mono p.1, upd_mono p.2.1, upd_mono p.2.2.1, upd_mono p.2.2.2.1, upd_mono p.2.2.2.2.1, upd_mono p.2.2.2.2.2⟩), (kp f0), (kp f1), (fun h => (f2 (upd_ne h (by decide))).imp (fun e => upd_mono e) id), (kp f3), (kp f4), (fun h => (f5 (upd_ne h (by decide))).imp (fun e => upd_mono e) id), (kp f6), (kp f7), (fun h => (f8 (upd_ne h (by decide))).imp (fun e => upd_mono e) id), (fun h => (f9 (upd_ne h (by decide))).imp (fun e => upd_mono e) id), (fun _ => by first | rfl | simp), (kp f11)⟩
          · obtain rfl := Option.some.inj ho
            have g9 := f9 (hd ⟨9, .data⟩ (by simp) rfl)
            have g10 := f10 (hd ⟨10, .data⟩ (by simp) rfl)
            subst g10
            obtain ⟨wa, A9, c9, q, rfl, q1, q2, rd, gb, G9, o9, s9⟩ := g9.resolve_left (by rw [hL]; simp)
            have SP := SR.out.pick rd gb
            have bx := Rw.far SP.box G9 (fun e => by
              rcases SP.apart _ (List.mem_cons_self) with e' | e'
              · rw [e'] at e; cases e
              · exact e' e.symm)
            have u0 := bx.cell 0
            have u1 := bx.frozen 0
            simp at u0
            clear bx SP
            refine wpOp_step rfl (fun K' hK => ?_)
            go_simp
            refine hK _ _ ?_
            exact ⟨_, _, _, _, _, _, _, _, _, _, _, rfl, (fun h => absurd (upd_mono (hd ⟨9, .data⟩ (by simp) rfl)) (by rw [h]; simp)), (upd_all I1 (by decide)), (fun _ => ⟨upd_mono (hd ⟨9, .data⟩ (by simp) rfl), upd_mono (hd ⟨10, .data⟩ (by simp) rfl)⟩), (fun h => upd_mono (I3 (upd_ne h (by decide)))), (fun h => upd_mono (I4 (upd_ne h (by decide)))), (fun h => let p := I5 (upd_ne h (by decide)); ⟨upd_mono p.1, upd_mono p.2.1, upd_mono p.2.2⟩), (fun h => let p := I6 (upd_ne h (by decide)); ⟨upd_mono p.1, upd_mono p.2.1, upd_mono p.2.2.1, upd_mono p.2.2.2⟩), (fun h => let p := I7 (upd_ne h (by decide)); ⟨upd_mono p.1, upd_mono p.2.1, upd_mono p.2.2.1, upd_mono p.2.2.2.1, upd_mono p.2.2.2.2⟩), (fun h => let p := I8 (upd_ne h (by decide)); ⟨upd_mono p.1, upd_mono p.2.1, upd_mono p.2.2.1, upd_mono p.2.2.2.1, upd_mono p.2.2.2.2.1, upd_mono p.2.2.2.2.2⟩), (kp f0), (kp f1), (fun _ => .inl (upd_mono (hd ⟨9, .data⟩ (by simp) rfl))), (kp f3), (kp f4), (fun _ => .inl (upd_mono (hd ⟨9, .data⟩ (by simp) rfl))), (kp f6), (kp f7), (fun _ => .inl (upd_mono (hd ⟨9, .data⟩ (by simp) rfl))), (fun _ => .inl upd_self), (kp f10), (fun _ => ⟨wa, ww, A9, c9, q, rfl, q1, q2, rd, gb, G9, o9, s9⟩)⟩
        case hdone =>
          rintro L ac ww hall ⟨t88, t89, t90, t91, t92, t93, t94, t95, t96, t97, t98, rfl, I0, I1, I2, I3, I4, I5, I6, I7, I8, f0, f1, f2, f3, f4, f5, f6, f7, f8, f9, f10, f11⟩
          have e0 := f0 (hall 0 (by decide))
          have e1 := f1 (hall 1 (by decide))
          have e2 := f2 (hall 2 (by decide))
          have e3 := f3 (hall 3 (by decide))
          have e4 := f4 (hall 4 (by decide))
          have e5 := f5 (hall 5 (by decide))
          have e6 := f6 (hall 6 (by decide))
          have e7 := f7 (hall 7 (by decide))
          have e8 := f8 (hall 8 (by decide))
          have e9 := f9 (hall 9 (by decide))
          have e10 := f10 (hall 10 (by decide))
          have e11 := f11 (hall 11 (by decide))
          clear f0 f1 f2 f3 f4 f5 f6 f7 f8 f9 f10 f11
          obtain ⟨wa, wb, A9, c9, q, rfl, q1, q2, rd1, gb1, G9, o9, s9⟩ := e11
          have SN := (SR.out.pick rd1 gb1).snoc (cl := ⟨true, q, []⟩) (v9 := .slice A9 (nn + 1) c9) (v8 := .slice none 0 0) (w1 := wb) G9 (by rw [HN.out]; exact o9) s9 (World.ownsRow_nil _ _ _ _) (fun _ _ => .inl rfl) (by simp [Value.ownBlock])
          have hdv : SmallH ⟨h1.cs ++ [⟨true, q, []⟩], h1.rt⟩ := SM.out.snoc (by rw [HN.out]; exact hn40) (by simp) ⟨q1, q2⟩ (fun x hx => by simp at hx)
          generalize wb.setCell ⟨b, 0, none⟩ (.slice A9 (nn + 1) c9) = w10 at SN ⊢
          have r0 : (w10).cell? ⟨b, 0, none⟩ = some (.slice A9 (nn + 1) c9) := SN.box.cell 0
          have r1 : (w10).cell? ⟨b, 1, none⟩ = some (.slice (some ⟨gR, 0, none⟩) 4 d1) := SN.box.cell 1
          have r2 : (w10).frozen? ⟨w.heap.size, 0, none⟩ = false := SN.res.frozen 0
          have r3 : (w10).frozen? ⟨w.heap.size, 1, none⟩ = false := SN.res.frozen 1
          have r4 : (w10).cell? ⟨w.heap.size, 0, none⟩ = some (.slice none 0 0) := SN.res.cell 0
          have r5 : (w10).cell? ⟨w.heap.size, 1, none⟩ = some (.slice none 0 0) := SN.res.cell 1
          have r6 : (((w10).setCell ⟨w.heap.size, 0, none⟩ (.slice A9 (nn + 1) c9)).setCell ⟨w.heap.size, 1, none⟩ (.slice (some ⟨gR, 0, none⟩) 4 d1)).cell? ⟨w.heap.size, 0, none⟩ = some (.slice A9 (nn + 1) c9) := ((SN.res.put 0 (.slice A9 (nn + 1) c9)).put 1 (.slice (some ⟨gR, 0, none⟩) 4 d1)).cell 0
          have r7 : (((w10).setCell ⟨w.heap.size, 0, none⟩ (.slice A9 (nn + 1) c9)).setCell ⟨w.heap.size, 1, none⟩ (.slice (some ⟨gR, 0, none⟩) 4 d1)).cell? ⟨w.heap.size, 1, none⟩ = some (.slice (some ⟨gR, 0, none⟩) 4 d1) := ((SN.res.put 0 (.slice A9 (nn + 1) c9)).put 1 (.slice (some ⟨gR, 0, none⟩) 4 d1)).cell 1
          have FI := Lib.hid (SN.fin (.slice A9 (nn + 1) c9) (.slice (some ⟨gR, 0, none⟩) 4 d1))
          have CAP := Lib.hid SN.own.caps.2.2
          have SM2 := Lib.hid hdv
          clear SN hdv SR o9 G9 s9 gb1 rd1 e0 e1 e2 e3 e4 e5 e6 e7 e8 e9 e10 I0 I1 I2 I3 I4 I5 I6 I7 I8 x0 x1 fb0 fb1
          go_wp2_with fail
          exact bodyPost_ret (v := .agg #[.slice A9 (nn + 1) c9, .slice (some ⟨gR, 0, none⟩) 4 d1]) (by simp [results, Tryd.results56, go_sem, *]) rfl ⟨A9, nn + 1, c9, some ⟨gR, 0, none⟩, 4, d1, ⟨h1.cs ++ [⟨true, q, []⟩], h1.rt⟩, rfl, CAP.out.1, CAP.out.2, FI.out.1, fun h => absurd h hn1, SM2.out, FI.out.2.1.more (by omega), FI.out.2.2⟩
end Go.Proofs.YthmddmddcdofaaaDoor

namespace Go.Proofs.YthmddmddcdofaaaDoor
open Go.RowKit
set_option maxRecDepth 100000
/-- a heap has been drawn -/
def DrawnH (w : World) (e : Ending) (w' : World) : Prop :=
  ∃ (A : Option Addr) (nn c : Nat) (R : Option Addr) (m d : Nat) (h : Hp), e = .returned (heapV A nn c R m d) ∧ nn ≤ c ∧ m ≤ d ∧ HS w' w'.heap.size A nn R m h ∧ SmallH h ∧ Below w.heap.size w w'
end Go.Proofs.YthmddmddcdofaaaDoor

namespace Go.Proofs.YthmddmddcdofaaaDoor
open Go.RowKit
set_option maxRecDepth 100000
/-- from block lo on nothing has changed -/
def Same (lo : Nat) (w w' : World) : Prop := w.heap.size ≤ w'.heap.size ∧ ∀ j, lo ≤ j → j < w.heap.size → w'.heap[j]? = w.heap[j]?
theorem Same.refl (lo : Nat) (w : World) : Same lo w w := ⟨Nat.le_refl _, fun _ _ _ => rfl⟩
theorem Same.grown {lo gr : Nat} {w w1 w2 : World} (h : Same lo w w1) (hg : w1.grownBy w2 (some gr)) (hl : gr < lo) : Same lo w w2 :=
  ⟨Nat.le_trans h.1 hg.size, fun j h1 h2 => (hg.block j (Nat.lt_of_lt_of_le h2 h.1) (fun e => by have := Option.some.inj e; omega)).trans (h.2 j h1 h2)⟩
theorem Same.put {lo g : Nat} {w w1 : World} (h : Same lo w w1) (hl : g < lo) (i : Nat) (v : Value) : Same lo w (w1.setCell ⟨g, i, none⟩ v) :=
  ⟨by simpa using h.1, fun j h1 h2 => (Below.heap_setCell w1 ⟨g, i, none⟩ v j (by show j ≠ g; omega)).trans (h.2 j h1 h2)⟩
theorem Same.rw {lo g : Nat} {w w1 : World} {t : TypeId} {cs : Array Value} (h : Same lo w w1) (hr : Rw w g t cs) (hl : lo ≤ g) : Rw w1 g t cs := (h.2 g hl hr.lt).trans hr
theorem HF.same {lo : Nat} {w w1 : World} {A R : Option Addr} {n m : Nat} {h : Hp} (hf : HF w lo A n R m h) (hs : Same lo w w1) : HF w1 lo A n R m h :=
  fun w' h1 h2 => hf w' (Nat.le_trans hs.1 h1) fun j h3 h4 => (h2 j h3 (Nat.lt_of_lt_of_le h4 hs.1)).trans (hs.2 j h3 h4)
theorem HF.low {lo lo' : Nat} {w : World} {A R : Option Addr} {n m : Nat} {h : Hp} (hf : HF w lo A n R m h) (hl : lo' ≤ lo) : HF w lo' A n R m h :=
  fun w' h1 h2 => hf w' h1 fun j h3 h4 => h2 j (by omega) h4
end Go.Proofs.YthmddmddcdofaaaDoor

namespace Go.Proofs.YthmddmddcdofaaaDoor
open Go.RowKit
set_option maxRecDepth 100000
set_option maxHeartbeats 1000000 in
theorem drawCollectSweep_any (A : Option Addr) (n c : Nat) (w : World) (h : Bytes w w.heap.size A n) (hc : n ≤ c) (hn : n ≤ 9223372036854775807) :
    Calls Tryd.prog 31 #[.slice A n c] w (DrawnH w) := by
  have b0 : Below w.heap.size w (w.alloc (.cells #[.slice none 0 0, .slice none 0 0] 26)) := (Below.refl _ _).alloc (Nat.le_refl _) _
  have h0 := (h.keep fun p hp => b0.cell hp).more b0.size
  have r0 := Rw.new w 26 #[.slice none 0 0, .slice none 0 0]
  go_enter Tryd.func31, Tryd.ntmps31
  go_wp2_with fail
  refine (open_any _ _ _ _ h0 hc hn).mono ?_
  rintro e w1 ⟨rfl, hr1, b1⟩
  have r1 := r0.keep b1 r0.lt
  have hz := r0.lt
  have bb1 := b0.trans (b1.mono b0.size)
  have hs0 := b0.size
  generalize w.alloc (.cells #[.slice none 0 0, .slice none 0 0] 26) = w0 at b0 h0 r0 hr1 b1 r1 hz bb1 hs0 ⊢
  go_wp2_with fail
  refine (l20Heap_any _ _ 12 _ hr1 (by omega) (by omega) (by omega)).mono ?_
  rintro e w2 ⟨A2, nn, c2, R2, m, d2, hh, rfl, hc1, hc2, HFx, -, hsm, -, g2⟩
  have r2 := r1.far g2 (fun e => by injection e with e; omega)
  have bb2 : Below w.heap.size w w2 := bb1.grown g2 bb1.size (fun k hk => by injection hk; omega)
  have x0 : w2.cell? ⟨w.heap.size, 0, none⟩ = some (.slice none 0 0) := r2.cell 0
  have x1 : w2.cell? ⟨w.heap.size, 1, none⟩ = some (.slice none 0 0) := r2.cell 1
  have x2 : w2.frozen? ⟨w.heap.size, 0, none⟩ = false := r2.frozen 0
  have x3 : w2.frozen? ⟨w.heap.size, 1, none⟩ = false := r2.frozen 1
  have y0 : ((w2.setCell ⟨w.heap.size, 0, none⟩ (.slice A2 nn c2)).setCell ⟨w.heap.size, 1, none⟩ (.slice R2 m d2)).cell? ⟨w.heap.size, 0, none⟩ = some (.slice A2 nn c2) := ((r2.put 0 (.slice A2 nn c2)).put 1 (.slice R2 m d2)).cell 0
  have y1 : ((w2.setCell ⟨w.heap.size, 0, none⟩ (.slice A2 nn c2)).setCell ⟨w.heap.size, 1, none⟩ (.slice R2 m d2)).cell? ⟨w.heap.size, 1, none⟩ = some (.slice R2 m d2) := ((r2.put 0 (.slice A2 nn c2)).put 1 (.slice R2 m d2)).cell 1
  have bS : w1.heap.size ≤ w1.heap.size ∧ w.heap.size < w1.heap.size := ⟨Nat.le_refl _, by have := b1.size; omega⟩
  have HSx := Lib.hid (HFx ((w2.setCell ⟨w.heap.size, 0, none⟩ (.slice A2 nn c2)).setCell ⟨w.heap.size, 1, none⟩ (.slice R2 m d2)) (by simp) (fun j hj hk => by
    rw [Below.heap_setCell _ ⟨w.heap.size, 1, none⟩ _ j (by show j ≠ w.heap.size; omega), Below.heap_setCell _ ⟨w.heap.size, 0, none⟩ _ j (by show j ≠ w.heap.size; omega)]))
  have BF := Lib.hid ((bb2.setCell (p := ⟨w.heap.size, 0, none⟩) (Nat.le_refl _) (.slice A2 nn c2)).setCell (p := ⟨w.heap.size, 1, none⟩) (Nat.le_refl _) (.slice R2 m d2))
  clear HFx g2 r2 r1 r0 bb1 bb2 b0 b1 h0 hr1
  go_wp2_with fail
  exact bodyPost_ret (v := .agg #[.slice A2 nn c2, .slice R2 m d2]) (by simp [results, Tryd.results31, go_sem, *]) rfl ⟨A2, nn, c2, R2, m, d2, hh, rfl, hc1, hc2, HSx.out, hsm, BF.out⟩
end Go.Proofs.YthmddmddcdofaaaDoor

namespace Go.Proofs.YthmddmddcdofaaaDoor
open Go.RowKit
/-- worlds in which what was there is as it was -/
def InW (w0 w : World) : Prop := Below w0.heap.size w0 w
theorem InW.cell {w0 w : World} (h : InW w0 w) {p : Addr} {v : Value} (hp : p.block < w0.heap.size) (hc : w0.cell? p = some v) : w.cell? p = some v := (Below.cell h hp).trans hc
theorem InW.call {w0 w w' : World} (h : InW w0 w) (hb : Below w.heap.size w w') : InW w0 w' := Below.trans h (hb.mono (Below.size h))
set_option maxRecDepth 100000 in
set_option maxHeartbeats 4000000 in
theorem sameHeap_same (A R A' R' : Option Addr) (n c m d c' d' : Nat) (h : Hp) (w : World) (hs : HS w w.heap.size A n R m h) (hs' : HS w w.heap.size A' n R' m h) (hn : n ≤ 1000000) (hm : m ≤ 1000000) (hb : ∀ cl ∈ h.cs, cl.r.length ≤ 1000000) :
    Calls Tryd.prog 28 #[heapV A n c R m d, heapV A' n c' R' m d'] w fun e w' => e = .returned (.bool true) ∧ Below w.heap.size w w' := by
  have b2 : Below w.heap.size w ((w.alloc (.cells #[.slice A n c, .slice R m d] 26)).alloc (.cells #[.slice A' n c', .slice R' m d'] 26)) := ((Below.refl w.heap.size w).alloc (Nat.le_refl _) _).alloc (by simp) _
  have q1 := (Rw.new w 26 #[.slice A n c, .slice R m d]).alloc (.cells #[.slice A' n c', .slice R' m d'] 26)
  have q2 := Rw.new (w.alloc (.cells #[.slice A n c, .slice R m d] 26)) 26 #[.slice A' n c', .slice R' m d']
  rw [World.size_alloc] at q2
  have hne : ((n : Int) != n) = false := by simp
  have HB := Lib.hid hb
  clear hb
  go_enter Tryd.func28, Tryd.ntmps28
  go_upto_region 1 with fail
  generalize (w.alloc (.cells #[.slice A n c, .slice R m d] 26)).alloc (.cells #[.slice A' n c', .slice R' m d'] 26) = w0 at b2 q1 q2 ⊢
  have y0 : w0.cell? ⟨w.heap.size, 0, none⟩ = some (.slice A n c) := q1.cell 0
  have y1 : w0.cell? ⟨w.heap.size + 1, 0, none⟩ = some (.slice A' n c') := q2.cell 0
  go_wp2_with fail
  clear y0 y1
  go_loopw [5] (fun i wr => ∃ k : Nat, k ≤ n ∧ i = .int .i64 k ∧ Below w0.heap.size w0 wr) (fun i _ => n - (intOf i).toNat)
  case atStart => exact ⟨0, Nat.zero_le _, rfl, Below.refl _ _⟩
  case round =>
    obtain ⟨k, hk, rfl, bw⟩ := hrel
    have bb := b2.trans (bw.mono b2.size)
    have r1 := q1.keep bw q1.lt
    have r2 := q2.keep bw q2.lt
    have hx0 := r1.lt
    have hx1 := r2.lt
    have x0 : wr.cell? ⟨w.heap.size, 0, none⟩ = some (.slice A n c) := r1.cell 0
    have x1 : wr.cell? ⟨w.heap.size + 1, 0, none⟩ = some (.slice A' n c') := r2.cell 0
    by_cases hlt : k < n
    · obtain ⟨g, o, cl, A1, m1, cc, rfl, hg, hcl, d1, d2, d3, -, hi⟩ := (hs.cells.below bb).at_ hlt
      obtain ⟨g', o', cl', A1', m1', cc', rfl, hg', hcl', d1', d2', d3', -, hi'⟩ := (hs'.cells.below bb).at_ hlt
      rw [hcl] at hcl'
      injection hcl' with hcl'
      subst hcl'
      obtain rfl : m1 = m1' := hi.1.symm.trans hi'.1
      have hlt' : (k : Int) < n := by omega
      have hgw : g < wr.heap.size := by have := bb.size; omega
      have hgw' : g' < wr.heap.size := by have := bb.size; omega
      have hm1 : m1 ≤ 1000000 := by rw [← hi.1]; exact HB.out cl (List.mem_of_getElem? hcl)
      have j1 := hi.more bb.size
      have j2 := hi'.more bb.size
      have Ca := Lib.hid (fun (ww : World) (hw : InW wr ww) => show ww.cell? ⟨w.heap.size, 0, none⟩ = some (.slice (some ⟨g, o, none⟩) n c) from hw.cell (by show _ < wr.heap.size; first | exact hx0 | omega) x0)
      have Cb := Lib.hid (fun (ww : World) (hw : InW wr ww) => show ww.cell? ⟨w.heap.size + 1, 0, none⟩ = some (.slice (some ⟨g', o', none⟩) n c') from hw.cell (by show _ < wr.heap.size; first | exact hx1 | omega) x1)
      have Cc := Lib.hid (fun (ww : World) (hw : InW wr ww) => show ww.cell? ⟨g, o + k * 3, none⟩ = some (.bool cl.u) from hw.cell (by show _ < wr.heap.size; first | exact hgw | omega) d1)
      have Cd := Lib.hid (fun (ww : World) (hw : InW wr ww) => show ww.cell? ⟨g', o' + k * 3, none⟩ = some (.bool cl.u) from hw.cell (by show _ < wr.heap.size; first | exact hgw' | omega) d1')
      have Ce := Lib.hid (fun (ww : World) (hw : InW wr ww) => show ww.cell? ⟨g, o + k * 3 + 1, none⟩ = some (.int .i64 cl.d) from hw.cell (by show _ < wr.heap.size; first | exact hgw | omega) d2)
      have Cf := Lib.hid (fun (ww : World) (hw : InW wr ww) => show ww.cell? ⟨g', o' + k * 3 + 1, none⟩ = some (.int .i64 cl.d) from hw.cell (by show _ < wr.heap.size; first | exact hgw' | omega) d2')
      have Cg := Lib.hid (fun (ww : World) (hw : InW wr ww) => show ww.cell? ⟨g, o + k * 3 + 2, none⟩ = some (.slice A1 m1 cc) from hw.cell (by show _ < wr.heap.size; first | exact hgw | omega) d3)
      have Ch := Lib.hid (fun (ww : World) (hw : InW wr ww) => show ww.cell? ⟨g', o' + k * 3 + 2, none⟩ = some (.slice A1' m1 cc') from hw.cell (by show _ < wr.heap.size; first | exact hgw' | omega) d3')
      have CI := Lib.hid (fun w' (hw' : InW wr w') => (sameInts_any A1 A1' m1 m1 cc cc' cl.r cl.r w' ((j1.below hw').more (Below.size hw')) ((j2.below hw').more (Below.size hw')) (by omega) (by omega)).mono (R' := fun e w'' => e = .returned (.bool true) ∧ InW wr w'') fun e w'' hh => ⟨by rw [decide_eq_true rfl] at hh; exact hh.1, hw'.call hh.2⟩)
      have hdd : (cl.d != cl.d) = false := by simp
      have hnu : (!(cl.u == cl.u)) = false := by simp
      go_wp2_with fail
      clear d1 d2 d3 d1' d2' d3' x0 x1 hi hi' hcl
      cases hu : cl.u
      · rw [hu] at Cc Cd
        refine wp_region_quiet (C := InW wr) (by kernel_rfl) (by kernel_rfl) (show InW wr _ from (Below.refl _ _).drew) ?_
        repeat (
          refine wpQuiet_step (fun K hK => ?_)
          go_simp
          first
          | (refine hK _ ?_
             clear hK K)
          | ((with_reducible refine ⟨_, fun _ _ => rfl, hK _ ?_⟩)
             clear hK K)
          | ((with_reducible refine ⟨_, CI.out, hK _ ?_⟩)
             clear hK K)
          | (refine ⟨.slice (some ⟨g, o, none⟩) n c, fun w' hw' => ?_, hK _ ?_⟩
             · have hcw := Ca.out w' hw'
               go_simp
               done
             clear hK K)
          | (refine ⟨.slice (some ⟨g', o', none⟩) n c', fun w' hw' => ?_, hK _ ?_⟩
             · have hcw := Cb.out w' hw'
               go_simp
               done
             clear hK K)
          | (refine ⟨.bool false, fun w' hw' => ?_, hK _ ?_⟩
             · have hcw := Cc.out w' hw'
               go_simp
               done
             clear hK K)
          | (refine ⟨.bool false, fun w' hw' => ?_, hK _ ?_⟩
             · have hcw := Cd.out w' hw'
               go_simp
               done
             clear hK K)
          | (refine ⟨.int .i64 cl.d, fun w' hw' => ?_, hK _ ?_⟩
             · have hcw := Ce.out w' hw'
               go_simp
               done
             clear hK K)
          | (refine ⟨.int .i64 cl.d, fun w' hw' => ?_, hK _ ?_⟩
             · have hcw := Cf.out w' hw'
               go_simp
               done
             clear hK K)
          | (refine ⟨.slice A1 m1 cc, fun w' hw' => ?_, hK _ ?_⟩
             · have hcw := Cg.out w' hw'
               go_simp
               done
             clear hK K)
          | (refine ⟨.slice A1' m1 cc', fun w' hw' => ?_, hK _ ?_⟩
             · have hcw := Ch.out w' hw'
               go_simp
               done
             clear hK K)
          )
        refine wpQuiet_nil ?_
        intro w5 hw5
        have b5 : Below w0.heap.size w0 w5 := bw.trans ((show Below wr.heap.size wr w5 from hw5).mono bw.size)
        clear Ca Cb Cc Cd Ce Cf Cg Ch CI
        go_wp2_with fail
        go_roundw
        case rel => exact ⟨k + 1, by omega, by go_num, b5⟩
        case measure => simp [intOf]; omega
      · rw [hu] at Cc Cd
        refine wp_region_quiet (C := InW wr) (by kernel_rfl) (by kernel_rfl) (show InW wr _ from (Below.refl _ _).drew) ?_
        repeat (
          refine wpQuiet_step (fun K hK => ?_)
          go_simp
          first
          | (refine hK _ ?_
             clear hK K)
          | ((with_reducible refine ⟨_, fun _ _ => rfl, hK _ ?_⟩)
             clear hK K)
          | ((with_reducible refine ⟨_, CI.out, hK _ ?_⟩)
             clear hK K)
          | (refine ⟨.slice (some ⟨g, o, none⟩) n c, fun w' hw' => ?_, hK _ ?_⟩
             · have hcw := Ca.out w' hw'
               go_simp
               done
             clear hK K)
          | (refine ⟨.slice (some ⟨g', o', none⟩) n c', fun w' hw' => ?_, hK _ ?_⟩
             · have hcw := Cb.out w' hw'
               go_simp
               done
             clear hK K)
          | (refine ⟨.bool true, fun w' hw' => ?_, hK _ ?_⟩
             · have hcw := Cc.out w' hw'
               go_simp
               done
             clear hK K)
          | (refine ⟨.bool true, fun w' hw' => ?_, hK _ ?_⟩
             · have hcw := Cd.out w' hw'
               go_simp
               done
             clear hK K)
          | (refine ⟨.int .i64 cl.d, fun w' hw' => ?_, hK _ ?_⟩
             · have hcw := Ce.out w' hw'
               go_simp
               done
             clear hK K)
          | (refine ⟨.int .i64 cl.d, fun w' hw' => ?_, hK _ ?_⟩
             · have hcw := Cf.out w' hw'
               go_simp
               done
             clear hK K)
          | (refine ⟨.slice A1 m1 cc, fun w' hw' => ?_, hK _ ?_⟩
             · have hcw := Cg.out w' hw'
               go_simp
               done
             clear hK K)
          | (refine ⟨.slice A1' m1 cc', fun w' hw' => ?_, hK _ ?_⟩
             · have hcw := Ch.out w' hw'
               go_simp
               done
             clear hK K)
          )
        refine wpQuiet_nil ?_
        intro w5 hw5
        have b5 : Below w0.heap.size w0 w5 := bw.trans ((show Below wr.heap.size wr w5 from hw5).mono bw.size)
        clear Ca Cb Cc Cd Ce Cf Cg Ch CI
        go_wp2_with fail
        go_roundw
        case rel => exact ⟨k + 1, by omega, by go_num, b5⟩
        case measure => simp [intOf]; omega
    · obtain rfl : k = n := by omega
      have z0 : wr.cell? ⟨w.heap.size, 1, none⟩ = some (.slice R m d) := r1.cell 1
      have z1 : wr.cell? ⟨w.heap.size + 1, 1, none⟩ = some (.slice R' m d') := r2.cell 1
      have t1 := hs.roots.below bb
      have t2 := hs'.roots.below bb
      go_wp2_with fail
      refine (sameInts_any _ _ _ _ _ _ h.rt h.rt _ (t1.more bb.size) (t2.more bb.size) (by omega) (by omega)).mono ?_
      rw [decide_eq_true rfl]
      rintro e w5 ⟨rfl, b5⟩
      have bf := bb.trans (b5.mono bb.size)
      go_wp2_with fail
      go_ret
      exact ⟨rfl, bf⟩
end Go.Proofs.YthmddmddcdofaaaDoor

namespace Go.Proofs.YthmddmddcdofaaaDoor
open Go.RowKit
set_option maxRecDepth 100000
namespace Hps
end Hps
open Classical in
/-- how many cells of a row that lies at A are used -/
noncomputable def usedW (w : World) (A : Option Addr) (n : Nat) : Nat := (List.range n).countP fun k => decide (∃ g o, A = some ⟨g, o, none⟩ ∧ w.cell? ⟨g, o + k * 3, none⟩ = some (.bool true))
end Go.Proofs.YthmddmddcdofaaaDoor

namespace Go.Proofs.YthmddmddcdofaaaDoor
open Go.RowKit
set_option maxRecDepth 100000
section
variable {w w' : World} {bs : Nat} {vc vr vk : Value} {h : Hp} {l : List Int}
theorem OwnC.new (ho : OwnH w bs vc vr h) (hb : bs ≤ w.heap.size) : OwnC (w.alloc (.cells #[] 3)) bs vc vr (.slice (some ⟨w.heap.size, 0, none⟩) 0 0) h [] :=
  OwnC.of ho ((Below.refl _ _).alloc (Nat.le_refl _) _) (own_noneI w w.heap.size (Nat.le_refl _)) hb
end
end Go.Proofs.YthmddmddcdofaaaDoor

namespace Go.Proofs.YthmddmddcdofaaaDoor
open Go.RowKit
set_option maxRecDepth 100000
/-- a heap with counts of the call's own, and what a pointer v leads to lies apart, once l -/
def OwnFC (w : World) (base : Nat) (v : Value) (l : Bool) (vc vr vk : Value) (h : Hp) (ct : List Int) : Prop := ∃ rvs, OwnCt w base vc vr vk rvs h ct ∧ ∀ g, l = true → v = .pointer (some ⟨g, 0, none⟩) → Apart (some g) (vc :: vr :: vk :: rvs)
section
variable {w w' : World} {base : Nat} {v vc vr vk : Value} {l l' : Bool} {h : Hp} {ct : List Int}
theorem OwnFC.own (ho : OwnFC w base v l vc vr vk h ct) : OwnC w base vc vr vk h ct := by
  obtain ⟨rvs, o, _⟩ := ho
  exact ⟨rvs, o⟩
theorem OwnFC.eq (ho : OwnFC w base v l vc vr vk h ct) (e : l' = l) : OwnFC w base v l' vc vr vk h ct := e ▸ ho
theorem OwnFC.below (ho : OwnFC w base v l vc vr vk h ct) (hb : Below w.heap.size w w') : OwnFC w' base v l vc vr vk h ct := by
  obtain ⟨rvs, o, a⟩ := ho
  exact ⟨rvs, o.below hb (Nat.le_refl _), a⟩
theorem OwnFC.alloc (ho : OwnFC w base v l vc vr vk h ct) (ob : Obj) : OwnFC (w.alloc ob) base (.pointer (some ⟨w.heap.size, 0, none⟩)) l' vc vr vk h ct := by
  obtain ⟨rvs, o, a⟩ := ho
  refine ⟨rvs, o.below ((Below.refl _ _).alloc (Nat.le_refl _) _) (Nat.le_refl _), fun g _ e => ?_⟩
  injection e with e
  injection e with e
  injection e with e
  subst e
  exact o.apart_new (Nat.le_refl _)
theorem OwnFC.baseC {base' : Nat} (hb : base' ≤ base) (ho : OwnC w base vc vr vk h ct) (hv : ∀ g, l = true → v = .pointer (some ⟨g, 0, none⟩) → g < base) : OwnFC w base' v l vc vr vk h ct := by
  obtain ⟨rvs, o⟩ := ho
  exact ⟨rvs, o.base hb, fun g hl e => o.apart_below (hv g hl e)⟩
theorem OwnFC.put {g : Nat} (ho : OwnFC w base (.pointer (some ⟨g, 0, none⟩)) l vc vr vk h ct) (hl : l = true) (u u' u2 : Value) : OwnFC (((w.setCell ⟨g, 0, none⟩ u).setCell ⟨g, 1, none⟩ u').setCell ⟨g, 2, none⟩ u2) base (.pointer (some ⟨g, 0, none⟩)) l vc vr vk h ct := by
  obtain ⟨rvs, o, a⟩ := ho
  exact ⟨rvs, ((o.put (a g hl rfl) 0 u).put (a g hl rfl) 1 u').put (a g hl rfl) 2 u2, a⟩
end
namespace Hps
end Hps
/-- while a program runs: the heap with counts so far in the box b -/
structure RunStC (w wr : World) (b : Nat) (vc vr vk : Value) (h : Hp) (ct : List Int) : Prop where
  own : ∃ rvs, OwnCt wr (w.heap.size + 1) vc vr vk rvs h ct ∧ Apart (some b) (vc :: vr :: vk :: rvs)
  box : Rw wr b 55 #[vc, vr, vk]
  res : Rw wr w.heap.size 55 #[.slice none 0 0, .slice none 0 0, .slice none 0 0]
  bel : Below w.heap.size w wr
  lo : w.heap.size + 1 ≤ b
theorem RunStC.next {w wr w5 : World} {b : Nat} {vc vr vk vc' vr' vk' : Value} {h h' : Hp} {ct ct' : List Int} (S : RunStC w wr b vc vr vk h ct) (B : Below wr.heap.size wr w5) (o : OwnC w5 wr.heap.size vc' vr' vk' h' ct') :
    RunStC w (((w5.setCell ⟨b, 0, none⟩ vc').setCell ⟨b, 1, none⟩ vr').setCell ⟨b, 2, none⟩ vk') b vc' vr' vk' h' ct' := by
  have hb := S.box.lt
  have hlo := S.lo
  obtain ⟨rvs, own⟩ := o
  have ap : Apart (some b) (vc' :: vr' :: vk' :: rvs) := own.apart_below hb
  have x1 := S.box.keep B hb
  have x2 := S.res.keep B S.res.lt
  refine ⟨⟨rvs, (((own.put ap 0 vc').put ap 1 vr').put ap 2 vk').base (by omega), ap⟩, ((x1.put 0 vc').put 1 vr').put 2 vk', ((x2.other (by omega) _).other (by omega) _).other (by omega) _, ?_, hlo⟩
  exact (((S.bel.trans (B.mono S.bel.size)).setCell (p := ⟨b, 0, none⟩) (by show w.heap.size ≤ b; omega) _).setCell (p := ⟨b, 1, none⟩) (by show w.heap.size ≤ b; omega) _).setCell (p := ⟨b, 2, none⟩) (by show w.heap.size ≤ b; omega) _
end Go.Proofs.YthmddmddcdofaaaDoor

namespace Go.Proofs.YthmddmddcdofaaaDoor
namespace Hps
/-- a cell refers to another one -/
def Edge (cs : List Cl) (x y : Nat) : Prop := ∃ c, cs[x]? = some c ∧ (y : Int) ∈ c.r
theorem Edge.rch {cs : List Cl} {x y : Nat} (h : Edge cs x y) : Rch cs [(x : Int)] y := by
  obtain ⟨c, h1, h2⟩ := h
  exact .step (Rch.self cs x) h1 h2
/-- a walk: how many cells were met, when, those that wait, and the components -/
structure Tw where
  met : Nat
  t : List Int
  o : List Int
  f : List Nat
def Vis (S : Tw) (k : Nat) : Prop := ∃ y, S.t[k]? = some y ∧ y ≠ 0
structure TwOk (cs : List Cl) (S : Tw) : Prop where
  len : S.t.length = cs.length
  cnt : S.met + S.t.count 0 = cs.length
  le : cs.length ≤ 40
  few : S.f.length + S.o.length ≤ S.met
  rng : ∀ (k : Nat) (x : Int), S.t[k]? = some x → 0 ≤ x ∧ (x ≤ S.met ∨ x = 41)
  opn : ∀ x ∈ S.o, ∃ (k : Nat) (y : Int), x = k ∧ S.t[k]? = some y ∧ 1 ≤ y ∧ y ≤ S.met
  opn' : ∀ (k : Nat) (y : Int), S.t[k]? = some y → 1 ≤ y → y ≤ S.met → (k : Int) ∈ S.o
  nd : S.o.Nodup
  fnd : ∀ k : Nat, S.t[k]? = some 41 ↔ ∃ w ∈ S.f, w.testBit k = true
  clo : ∀ a b : Nat, S.t[a]? = some 41 → Edge cs a b → S.t[b]? = some 41
  str : ∀ w ∈ S.f, ∀ a b : Nat, w.testBit a = true → w.testBit b = true → Rch cs [(a : Int)] b
  top : S.f.Pairwise fun w w' => ∀ a b : Nat, w.testBit a = true → (a = b ∨ Edge cs a b) → w'.testBit b = false
theorem TwOk.met_le {cs : List Cl} {S : Tw} (h : TwOk cs S) : S.met ≤ 40 := by have := h.cnt; have := h.le; omega
/-- what a walk that waits for other cells has found of a cell's references -/
def Seen (S S' : Tw) (n : Int) (x : Nat) : Prop := Vis S' x ∧ ((x : Int) ∈ S.o → ∀ q, S.t[x]? = some q → n ≤ q)
/-- what a visit of cell number v does -/
structure TwPost (cs : List Cl) (S : Tw) (v : Nat) (n : Int) (S' : Tw) : Prop where
  ok : TwOk cs S'
  met : S.met ≤ S'.met
  keep : ∀ (k : Nat) (y : Int), S.t[k]? = some y → y ≠ 0 → S'.t[k]? = some y
  late : ∀ (k : Nat) (y : Int), S'.t[k]? = some y → y ≠ 0 → S.t[k]? = some 0 → (S.met : Int) < y ∧ Rch cs [(v : Int)] k
  vis : Vis S' v
  self : ∀ y, S.t[v]? = some y → y ≠ 0 → n ≤ y
  rch : (S.met : Int) < n ∨ ∃ z : Nat, S.t[z]? = some n ∧ 1 ≤ n ∧ Rch cs [(v : Int)] z
  opn : ∃ tl : List Int, S'.o = S.o ++ tl ∧ ∀ y : Nat, (y : Int) ∈ tl → (∀ x, Edge cs y x → Seen S S' n x) ∧ ∃ x : Nat, (x : Int) ∈ S.o ∧ Rch cs [(y : Int)] x
/-- what holds within a visit of cell number v: some of its references are visited -/
structure TwIn (cs : List Cl) (S : Tw) (v : Nat) (R : List Int) (n : Int) (S' : Tw) : Prop where
  pre : TwOk cs S
  ok : TwOk cs S'
  met : S.met + 1 ≤ S'.met
  keep : ∀ (k : Nat) (y : Int), S.t[k]? = some y → y ≠ 0 → S'.t[k]? = some y
  late : ∀ (k : Nat) (y : Int), S'.t[k]? = some y → y ≠ 0 → S.t[k]? = some 0 → (S.met : Int) < y ∧ Rch cs [(v : Int)] k
  tv : S'.t[v]? = some ((S.met : Int) + 1)
  t0 : S.t[v]? = some 0
  lev : n ≤ (S.met : Int) + 1
  rch : n = (S.met : Int) + 1 ∨ ∃ z : Nat, S.t[z]? = some n ∧ 1 ≤ n ∧ Rch cs [(v : Int)] z
  done : ∀ x : Nat, (x : Int) ∈ R → Seen S S' n x
  opn : ∃ tl : List Int, S'.o = S.o ++ (v : Int) :: tl ∧ ∀ y : Nat, (y : Int) ∈ tl → (∀ x, Edge cs y x → Seen S S' n x) ∧ ∃ x : Nat, ((x : Int) ∈ S.o ∨ x = v) ∧ Rch cs [(y : Int)] x
/-- a cell that was met before -/
theorem TwPost.seen {cs : List Cl} {S : Tw} {v : Nat} {y : Int} (h : TwOk cs S) (hy : S.t[v]? = some y) (h0 : y ≠ 0) : TwPost cs S v y S := by
  refine ⟨h, Nat.le_refl _, fun k z h1 _ => h1, fun k z h1 h2 h3 => ?_, ⟨y, hy, h0⟩, fun z h1 _ => ?_, ?_, [], by simp, fun z hz => by simp at hz⟩
  · rw [h1] at h3
    exact absurd (Option.some.inj h3) h2
  · rw [hy] at h1
    have := Option.some.inj h1
    omega
  · obtain ⟨h1, h2 | h2⟩ := h.rng v y hy
    · exact .inr ⟨v, hy, by omega, Rch.self cs v⟩
    · have := h.met_le
      exact .inl (by omega)
theorem count_set0 {l : List Int} {v : Nat} {y : Int} (h : l[v]? = some 0) (hy : y ≠ 0) : (l.set v y).count 0 + 1 = l.count 0 := by
  induction l generalizing v with
  | nil => simp at h
  | cons a l ih =>
    cases v with
    | zero =>
      obtain rfl : a = 0 := by simpa using h
      simp [hy]
    | succ v =>
      have := ih (v := v) (by simpa using h)
      simp only [List.set_cons_succ, List.count_cons]
      omega
/-- a cell is met -/
theorem TwIn.enter {cs : List Cl} {S : Tw} {v : Nat} (h : TwOk cs S) (hv : S.t[v]? = some 0) : TwIn cs S v [] ((S.met : Int) + 1) ⟨S.met + 1, S.t.set v ((S.met : Int) + 1), S.o ++ [(v : Int)], S.f⟩ := by
  have hlt := (List.getElem?_eq_some_iff.1 hv).1
  have hc := count_set0 (y := (S.met : Int) + 1) hv (by omega)
  have hm := h.cnt
  have hle := h.le
  have get : ∀ (k : Nat) (y : Int), (S.t.set v ((S.met : Int) + 1))[k]? = some y ↔ (k = v ∧ y = (S.met : Int) + 1) ∨ (k ≠ v ∧ S.t[k]? = some y) := by
    intro k y
    rw [List.getElem?_set]
    by_cases e : v = k
    · subst e
      simp [hlt, eq_comm]
    · rw [if_neg e]
      simp [show ¬ k = v from fun q => e q.symm]
  have h41 : ∀ k : Nat, (S.t.set v ((S.met : Int) + 1))[k]? = some 41 ↔ S.t[k]? = some 41 := by
    intro k
    rw [get]
    constructor
    · rintro (⟨_, h2⟩ | ⟨_, h2⟩)
      · omega
      · exact h2
    · intro h2
      refine .inr ⟨?_, h2⟩
      rintro rfl
      rw [hv] at h2
      simp at h2
  have hvo : (v : Int) ∉ S.o := by
    intro q
    obtain ⟨k, y, h1, h2, h3, h4⟩ := h.opn _ q
    obtain rfl : v = k := by omega
    rw [hv] at h2
    have := Option.some.inj h2
    omega
  refine ⟨h, ⟨?_, ?_, hle, ?_, ?_, ?_, ?_, ?_, ?_, ?_, h.str, h.top⟩, Nat.le_refl _, ?_, ?_, (get v _).2 (.inl ⟨rfl, rfl⟩), hv, Int.le_refl _, .inl rfl, fun x hx => by simp at hx, [], rfl, fun y hy => by simp at hy⟩
  · simpa using h.len
  · simp only
    omega
  · have := h.few
    simp only [List.length_append, List.length_singleton]
    omega
  · intro k x hx
    rcases (get k x).1 hx with ⟨_, h2⟩ | ⟨_, h2⟩
    · simp only
      omega
    · have := h.rng k x h2
      simp only
      omega
  · intro x hx
    simp only [List.mem_append, List.mem_singleton] at hx
    rcases hx with h1 | h1
    · obtain ⟨k, y, h2, h3, h4, h5⟩ := h.opn x h1
      refine ⟨k, y, h2, (get k y).2 (.inr ⟨?_, h3⟩), h4, by simp only; omega⟩
      rintro rfl
      exact hvo (h2 ▸ h1)
    · exact ⟨v, (S.met : Int) + 1, h1, (get v _).2 (.inl ⟨rfl, rfl⟩), by omega, by simp⟩
  · intro k y hy h1 h2
    rcases (get k y).1 hy with ⟨h3, _⟩ | ⟨h3, h4⟩
    · simp [h3]
    · have := h.rng k y h4
      have h5 := h.opn' k y h4 h1 (by simp only at h2; omega)
      simp [h5]
  · rw [List.nodup_append]
    refine ⟨h.nd, by simp, fun a ha b hb => ?_⟩
    rw [List.mem_singleton] at hb
    rintro rfl
    exact hvo (hb ▸ ha)
  · intro k
    exact (h41 k).trans (h.fnd k)
  · intro a b ha hab
    exact (h41 b).2 (h.clo a b ((h41 a).1 ha) hab)
  · intro k y hy h0
    refine (get k y).2 (.inr ⟨?_, hy⟩)
    rintro rfl
    rw [hv] at hy
    exact h0 (Option.some.inj hy).symm
  · intro k y hy h0 hk
    rcases (get k y).1 hy with ⟨h3, h4⟩ | ⟨h3, h4⟩
    · subst h3
      exact ⟨by omega, Rch.self cs k⟩
    · rw [h4] at hk
      exact absurd (Option.some.inj hk) h0
theorem TwIn.skip {cs : List Cl} {S S' : Tw} {v : Nat} {R : List Int} {n : Int} (h : TwIn cs S v R n S') : TwIn cs S v (R ++ [-1]) n S' :=
  have key : ∀ x : Nat, (x : Int) ∈ R ++ [-1] → Seen S S' n x := fun x hx => by
    rw [List.mem_append, List.mem_singleton] at hx
    rcases hx with h1 | h1
    · exact h.done x h1
    · omega
  { h with done := key }
theorem Vis.keep {S S' : Tw} {x : Nat} (h : Vis S x) (hk : ∀ (k : Nat) (y : Int), S.t[k]? = some y → y ≠ 0 → S'.t[k]? = some y) : Vis S' x := by
  obtain ⟨y, h1, h2⟩ := h
  exact ⟨y, hk x y h1 h2, h2⟩
/-- one reference more is visited -/
theorem TwIn.step {cs : List Cl} {S S1 S2 : Tw} {v c : Nat} {R : List Int} {n m : Int} (h : TwIn cs S v R n S1) (p : TwPost cs S1 c m S2) (he : Edge cs v c) : TwIn cs S v (R ++ [(c : Int)]) (min n m) S2 := by
  obtain ⟨tl1, ho1, ht1⟩ := h.opn
  obtain ⟨tl2, ho2, ht2⟩ := p.opn
  have old : ∀ (x : Nat) (q : Int), (x : Int) ∈ S.o → S.t[x]? = some q → (x : Int) ∈ S1.o ∧ S1.t[x]? = some q := by
    intro x q hx hq
    refine ⟨by rw [ho1]; simp [hx], h.keep x q hq ?_⟩
    obtain ⟨k, y, h1, h2, h3, _⟩ := h.pre.opn _ hx
    obtain rfl : x = k := by omega
    rw [hq] at h2
    have := Option.some.inj h2
    omega
  refine ⟨h.pre, p.ok, Nat.le_trans h.met p.met, fun k y h1 h2 => p.keep k y (h.keep k y h1 h2) h2, ?_, p.keep _ _ h.tv (by omega), h.t0, by have := h.lev; omega, ?_, ?_, tl1 ++ tl2, ?_, ?_⟩
  · intro k y h1 h2 h3
    by_cases hk : Vis S1 k
    · obtain ⟨z, h4, h5⟩ := hk
      have h6 := p.keep k z h4 h5
      rw [h1] at h6
      have h7 := Option.some.inj h6
      subst h7
      exact h.late k y h4 h5 h3
    · have h4 : S1.t[k]? = some 0 := by
        have hl := (List.getElem?_eq_some_iff.1 h3).1
        rw [h.pre.len, ← h.ok.len] at hl
        rw [List.getElem?_eq_getElem hl]
        by_cases q : S1.t[k] = 0
        · rw [q]
        · exact absurd ⟨S1.t[k], List.getElem?_eq_getElem hl, q⟩ hk
      obtain ⟨h5, h6⟩ := p.late k y h1 h2 h4
      have := h.met
      exact ⟨by omega, Rch.then he.rch h6⟩
  · rcases Int.le_total n m with hnm | hnm
    · rw [show min n m = n by omega]
      exact h.rch
    · rw [show min n m = m by omega]
      have hlev := h.lev
      have hmet := h.met
      rcases p.rch with h1 | ⟨z, h1, h2, h3⟩
      · left; omega
      · by_cases hm : m = (S.met : Int) + 1
        · exact .inl hm
        · right
          refine ⟨z, ?_, h2, Rch.then he.rch h3⟩
          have hl := (List.getElem?_eq_some_iff.1 h1).1
          rw [h.ok.len, ← h.pre.len] at hl
          rw [List.getElem?_eq_getElem hl]
          by_cases q : S.t[z] = 0
          · have := (h.late z m h1 (by omega) (by rw [List.getElem?_eq_getElem hl, q])).1
            omega
          · have := h.keep z _ (List.getElem?_eq_getElem hl) q
            rw [h1] at this
            exact this.symm
  · intro x hx
    rw [List.mem_append, List.mem_singleton] at hx
    rcases hx with h1 | h1
    · obtain ⟨h2, h3⟩ := h.done x h1
      exact ⟨h2.keep p.keep, fun h4 q hq => by have := h3 h4 q hq; omega⟩
    · obtain rfl : x = c := by omega
      refine ⟨p.vis, fun h4 q hq => ?_⟩
      have h5 := (old x q h4 hq).2
      have := p.self q h5 (by
        obtain ⟨k, y, e1, e2, e3, _⟩ := h.pre.opn _ h4
        obtain rfl : x = k := by omega
        rw [hq] at e2
        have := Option.some.inj e2
        omega)
      omega
  · rw [ho2, ho1, List.append_assoc, List.cons_append]
  · intro y hy
    rw [List.mem_append] at hy
    rcases hy with h1 | h1
    · obtain ⟨h2, h3⟩ := ht1 y h1
      refine ⟨fun x hx => ?_, h3⟩
      obtain ⟨h4, h5⟩ := h2 x hx
      exact ⟨h4.keep p.keep, fun h6 q hq => by have := h5 h6 q hq; omega⟩
    · obtain ⟨h2, x, h3, h4⟩ := ht2 y h1
      refine ⟨fun x hx => ?_, ?_⟩
      · obtain ⟨h5, h6⟩ := h2 x hx
        exact ⟨h5, fun h7 q hq => by have := h6 (old x q h7 hq).1 q (old x q h7 hq).2; omega⟩
      · rw [ho1, List.mem_append, List.mem_cons] at h3
        rcases h3 with h3 | h3 | h3
        · exact ⟨x, .inl h3, h4⟩
        · exact ⟨x, .inr (by omega), h4⟩
        · obtain ⟨_, z, h5, h6⟩ := ht1 x h3
          exact ⟨z, h5, Rch.then h4 h6⟩
/-- a way leads back before the cell: it waits -/
theorem TwIn.out {cs : List Cl} {S S' : Tw} {v : Nat} {c : Cl} {n : Int} (h : TwIn cs S v c.r n S') (hc : cs[v]? = some c) (hn : n ≠ (S.met : Int) + 1) : TwPost cs S v n S' := by
  obtain ⟨tl, ho, ht⟩ := h.opn
  have hlev := h.lev
  obtain ⟨z, z1, z2, z3⟩ := h.rch.resolve_left hn
  have hz := h.pre.opn' z n z1 z2 (by omega)
  refine ⟨h.ok, by have := h.met; omega, h.keep, h.late, ⟨_, h.tv, by omega⟩, fun y hy h0 => ?_, .inr ⟨z, z1, z2, z3⟩, (v : Int) :: tl, ho, fun y hy => ?_⟩
  · rw [h.t0] at hy
    exact absurd (Option.some.inj hy).symm h0
  · rw [List.mem_cons] at hy
    rcases hy with h1 | h1
    · obtain rfl : y = v := by omega
      refine ⟨fun x hx => ?_, z, hz, z3⟩
      obtain ⟨c', h2, h3⟩ := hx
      rw [hc] at h2
      have := Option.some.inj h2
      subst this
      exact h.done x h3
    · obtain ⟨h2, x, h3, h4⟩ := ht y h1
      refine ⟨h2, ?_⟩
      rcases h3 with h3 | h3
      · exact ⟨x, h3, h4⟩
      · subst h3
        exact ⟨z, hz, Rch.then h4 z3⟩
/-- times of cells whose component is found, and the component as a word of bits -/
def shutT (t : List Int) (l : List Int) : List Int := l.foldl (fun t x => t.set x.toNat 41) t
def shutW (V : Nat) (l : List Int) : Nat := l.foldl (fun w x => w ||| 2 ^ x.toNat) V
theorem shutT_snoc (t l : List Int) (x : Int) : shutT t (l ++ [x]) = (shutT t l).set x.toNat 41 := by simp [shutT, List.foldl_append]
theorem shutW_snoc (V : Nat) (l : List Int) (x : Int) : shutW V (l ++ [x]) = shutW V l ||| 2 ^ x.toNat := by simp [shutW, List.foldl_append]
theorem shutT_len (l : List Int) : ∀ t : List Int, (shutT t l).length = t.length := by
  induction l with
  | nil => intro t; rfl
  | cons x l ih =>
    intro t
    show (shutT (t.set x.toNat 41) l).length = _
    rw [ih, List.length_set]
theorem shutT_at (l : List Int) : ∀ (t : List Int), (∀ x ∈ l, 0 ≤ x) → ∀ k : Nat, (shutT t l)[k]? = if (k : Int) ∈ l then t[k]?.map (fun _ => 41) else t[k]? := by
  induction l with
  | nil => intro t _ k; simp [shutT]
  | cons x l ih =>
    intro t hx k
    show (shutT (t.set x.toNat 41) l)[k]? = _
    rw [ih _ (fun y hy => hx y (by simp [hy])) k, List.getElem?_set]
    have h0 := hx x (by simp)
    by_cases e : x.toNat = k
    · have e2 : (k : Int) = x := by omega
      rw [if_pos e, e]
      by_cases q : k < t.length
      · simp [e2, q]
      · simp [e2, q]
    · have e2 : ¬ (k : Int) = x := by omega
      rw [if_neg e]
      simp [e2]
theorem shutW_at (l : List Int) : ∀ (V : Nat), (∀ x ∈ l, 0 ≤ x) → ∀ k : Nat, (shutW V l).testBit k = (V.testBit k || decide ((k : Int) ∈ l)) := by
  induction l with
  | nil => intro V _ k; simp [shutW]
  | cons x l ih =>
    intro V hx k
    show (shutW (V ||| 2 ^ x.toNat) l).testBit k = _
    rw [ih _ (fun y hy => hx y (by simp [hy])) k, Nat.testBit_or, Nat.testBit_two_pow]
    have h0 := hx x (by simp)
    by_cases e : x.toNat = k
    · have e2 : (k : Int) = x := by omega
      simp [e, e2]
    · have e2 : ¬ (k : Int) = x := by omega
      simp [e, e2]
theorem count_shut (l : List Int) : ∀ (t : List Int), (∀ x ∈ l, ∃ y : Int, t[x.toNat]? = some y ∧ y ≠ 0) → (shutT t l).count 0 = t.count 0 := by
  induction l with
  | nil => intro t _; rfl
  | cons x l ih =>
    intro t hx
    show (shutT (t.set x.toNat 41) l).count 0 = _
    obtain ⟨y, h1, h2⟩ := hx x (by simp)
    have key : ∀ (t : List Int) (k : Nat) (y : Int), t[k]? = some y → y ≠ 0 → (t.set k 41).count 0 = t.count 0 := by
      intro t
      induction t with
      | nil => intro k y h1; simp at h1
      | cons a t ih =>
        intro k y h1 h2
        cases k with
        | zero =>
          have : a = y := by simpa using h1
          subst this
          simp [h2]
        | succ k =>
          have := ih k y (by simpa using h1) h2
          simp only [List.set_cons_succ, List.count_cons]
          omega
    rw [ih _ fun z hz => ?_, key t _ y h1 h2]
    obtain ⟨q, h3, h4⟩ := hx z (by simp [hz])
    rw [List.getElem?_set]
    by_cases e : x.toNat = z.toNat
    · rw [if_pos e, if_pos (by rw [e]; exact (List.getElem?_eq_some_iff.1 h3).1)]
      exact ⟨41, rfl, by omega⟩
    · rw [if_neg e]
      exact ⟨q, h3, h4⟩
/-- no way leads back before the cell: its component is found -/
theorem TwIn.shut {cs : List Cl} {S S' : Tw} {v : Nat} {c : Cl} (h : TwIn cs S v c.r ((S.met : Int) + 1) S') (hc : cs[v]? = some c) {tl : List Int} (ho : S'.o = S.o ++ (v : Int) :: tl) :
    TwPost cs S v ((S.met : Int) + 1) ⟨S'.met, shutT S'.t ((v : Int) :: tl), S.o, S'.f ++ [shutW 0 ((v : Int) :: tl)]⟩ := by
  obtain ⟨tl', ho', ht⟩ := h.opn
  have e := List.append_cancel_left (ho'.symm.trans ho)
  injection e with _ e
  subst e
  clear ho'
  have hml := h.ok.met_le
  have hmet := h.met
  -- those that are put into the component
  have hpos : ∀ x ∈ (v : Int) :: tl', ∃ (k : Nat) (y : Int), x = k ∧ S'.t[k]? = some y ∧ 1 ≤ y ∧ y ≤ S'.met ∧ x ∉ S.o := by
    intro x hx
    obtain ⟨k, y, h1, h2, h3, h4⟩ := h.ok.opn x (by rw [ho, List.mem_append]; exact .inr hx)
    refine ⟨k, y, h1, h2, h3, h4, fun q => ?_⟩
    have hn := h.ok.nd
    rw [ho, List.nodup_append] at hn
    exact hn.2.2 x q x hx rfl
  have hnn : ∀ x ∈ (v : Int) :: tl', 0 ≤ x := fun x hx => by
    obtain ⟨k, _, h1, _⟩ := hpos x hx
    omega
  have hT : ∀ k : Nat, (shutT S'.t ((v : Int) :: tl'))[k]? = if (k : Int) ∈ (v : Int) :: tl' then S'.t[k]?.map (fun _ => 41) else S'.t[k]? := shutT_at _ _ hnn
  have hW : ∀ k : Nat, (shutW 0 ((v : Int) :: tl')).testBit k = true ↔ (k : Int) ∈ (v : Int) :: tl' := fun k => by rw [shutW_at _ _ hnn]; simp
  have hin : ∀ k : Nat, (k : Int) ∈ (v : Int) :: tl' → (shutT S'.t ((v : Int) :: tl'))[k]? = some 41 := fun k hk => by
    obtain ⟨j, y, h1, h2, _⟩ := hpos _ hk
    obtain rfl : k = j := by omega
    rw [hT, if_pos hk, h2]
    rfl
  have hout : ∀ k : Nat, (k : Int) ∉ (v : Int) :: tl' → (shutT S'.t ((v : Int) :: tl'))[k]? = S'.t[k]? := fun k hk => by rw [hT, if_neg hk]
  have h41 : ∀ k : Nat, (shutT S'.t ((v : Int) :: tl'))[k]? = some 41 ↔ (k : Int) ∈ (v : Int) :: tl' ∨ S'.t[k]? = some 41 := by
    intro k
    by_cases q : (k : Int) ∈ (v : Int) :: tl'
    · exact ⟨fun _ => .inl q, fun _ => hin k q⟩
    · rw [hout k q]
      exact ⟨.inr, fun q2 => q2.resolve_left q⟩
  have hno41 : ∀ k : Nat, (k : Int) ∈ (v : Int) :: tl' → S'.t[k]? ≠ some 41 := fun k hk e => by
    obtain ⟨j, y, h1, h2, h3, h4, _⟩ := hpos _ hk
    obtain rfl : k = j := by omega
    rw [h2] at e
    have := Option.some.inj e
    omega
  -- they were not met before
  have hnew : ∀ k : Nat, (k : Int) ∈ (v : Int) :: tl' → S.t[k]? = some 0 := by
    intro k hk
    obtain ⟨j, y, h1, h2, h3, h4, h5⟩ := hpos _ hk
    obtain rfl : k = j := by omega
    have hl := (List.getElem?_eq_some_iff.1 h2).1
    rw [h.ok.len, ← h.pre.len] at hl
    rw [List.getElem?_eq_getElem hl]
    by_cases q : S.t[k] = 0
    · rw [q]
    · exfalso
      have h6 := h.keep k _ (List.getElem?_eq_getElem hl) q
      rw [h2] at h6
      have h7 := Option.some.inj h6
      have h8 := h.pre.rng k _ (List.getElem?_eq_getElem hl)
      rw [← h7] at h8
      have h9 := h.pre.opn' k y (by rw [List.getElem?_eq_getElem hl, ← h7]) h3 (by omega)
      exact h5 h9
  have hfrom : ∀ k : Nat, (k : Int) ∈ (v : Int) :: tl' → Rch cs [(v : Int)] k := by
    intro k hk
    obtain ⟨j, y, h1, h2, h3, _⟩ := hpos _ hk
    obtain rfl : k = j := by omega
    exact (h.late k y h2 (by omega) (hnew k hk)).2
  -- where their references lead
  have hedge : ∀ a b : Nat, (a : Int) ∈ (v : Int) :: tl' → Edge cs a b → (b : Int) ∈ (v : Int) :: tl' ∨ S'.t[b]? = some 41 := by
    intro a b ha hab
    have hs : Seen S S' ((S.met : Int) + 1) b := by
      rw [List.mem_cons] at ha
      rcases ha with h1 | h1
      · obtain rfl : a = v := by omega
        obtain ⟨c', h2, h3⟩ := hab
        rw [hc] at h2
        have := Option.some.inj h2
        subst this
        exact h.done b h3
      · exact (ht a h1).1 b hab
    obtain ⟨⟨y, h1, h2⟩, h3⟩ := hs
    rcases h.ok.rng b y h1 with ⟨h4, h5 | h5⟩
    · left
      have h6 := h.ok.opn' b y h1 (by omega) h5
      rw [ho, List.mem_append] at h6
      refine h6.resolve_left fun q => ?_
      obtain ⟨k, z, e1, e2, e3, e4⟩ := h.pre.opn _ q
      obtain rfl : b = k := by omega
      have := h3 q z e2
      omega
    · exact .inr (h5 ▸ h1)
  have hreach : ∀ a b : Nat, (a : Int) ∈ (v : Int) :: tl' → Rch cs [(a : Int)] b → (b : Int) ∈ (v : Int) :: tl' ∨ S'.t[b]? = some 41 := by
    intro a b ha hab
    induction hab with
    | root hk =>
      rw [List.mem_singleton] at hk
      left
      rw [hk]
      exact ha
    | @step k m cl _ h1 h2 ih =>
      rcases ih with q | q
      · exact hedge k m q ⟨cl, h1, h2⟩
      · exact .inr (h.ok.clo k m q ⟨cl, h1, h2⟩)
  have hback : ∀ a : Nat, (a : Int) ∈ (v : Int) :: tl' → Rch cs [(a : Int)] v := by
    intro a ha
    have ha' := ha
    rw [List.mem_cons] at ha
    rcases ha with h1 | h1
    · obtain rfl : a = v := by omega
      exact Rch.self cs a
    · obtain ⟨_, x, h2, h3⟩ := ht a h1
      rcases h2 with h2 | h2
      · exfalso
        rcases hreach a x ha' h3 with q | q
        · obtain ⟨_, _, _, _, _, _, q2⟩ := hpos _ q
          exact q2 h2
        · obtain ⟨k, y, e1, e2, e3, e4⟩ := h.pre.opn _ h2
          obtain rfl : x = k := by omega
          have := h.keep x y e2 (by omega)
          rw [q] at this
          have := Option.some.inj this
          omega
      · exact h2 ▸ h3
  refine ⟨⟨?_, ?_, h.ok.le, ?_, ?_, ?_, ?_, h.pre.nd, ?_, ?_, ?_, ?_⟩, by simp only; omega, ?_, ?_, ⟨41, hin v (by simp), by omega⟩, ?_, .inl (by omega), [], by simp, fun y hy => by simp at hy⟩
  · rw [shutT_len]
    exact h.ok.len
  · rw [count_shut _ _ fun x hx => ?_]
    · exact h.ok.cnt
    · obtain ⟨k, y, h1, h2, h3, _⟩ := hpos x hx
      exact ⟨y, by rw [h1]; simpa using h2, by omega⟩
  · have := h.ok.few
    rw [ho] at this
    simp only [List.length_append, List.length_cons, List.length_nil] at this ⊢
    omega
  · intro k x hx
    by_cases q : (k : Int) ∈ (v : Int) :: tl'
    · have := hin k q
      rw [hx] at this
      have := Option.some.inj this
      omega
    · exact h.ok.rng k x (by rw [← hout k q]; exact hx)
  · intro x hx
    obtain ⟨k, y, h1, h2, h3, h4⟩ := h.pre.opn x hx
    refine ⟨k, y, h1, ?_, h3, by simp only; omega⟩
    rw [hout k fun q => by obtain ⟨_, _, _, _, _, _, q2⟩ := hpos _ q; exact q2 (h1 ▸ hx)]
    exact h.keep k y h2 (by omega)
  · intro k y hy h1 h2
    simp only at h2
    by_cases q : (k : Int) ∈ (v : Int) :: tl'
    · have := hin k q
      rw [hy] at this
      have := Option.some.inj this
      omega
    · have h3 := h.ok.opn' k y (by rw [← hout k q]; exact hy) h1 h2
      rw [ho, List.mem_append] at h3
      exact h3.resolve_right q
  · intro k
    rw [h41, h.ok.fnd]
    simp only [List.mem_append, List.mem_singleton]
    constructor
    · rintro (q | ⟨w, q1, q2⟩)
      · exact ⟨_, .inr rfl, (hW k).2 q⟩
      · exact ⟨w, .inl q1, q2⟩
    · rintro ⟨w, q1 | q1, q2⟩
      · exact .inr ⟨w, q1, q2⟩
      · subst q1
        exact .inl ((hW k).1 q2)
  · intro a b ha hab
    rw [h41] at ha ⊢
    rcases ha with q | q
    · exact hedge a b q hab
    · exact .inr (h.ok.clo a b q hab)
  · intro w hw a b ha hb
    simp only [List.mem_append, List.mem_singleton] at hw
    rcases hw with q | q
    · exact h.ok.str w q a b ha hb
    · subst q
      exact Rch.then (hback a ((hW a).1 ha)) (hfrom b ((hW b).1 hb))
  · rw [List.pairwise_append]
    refine ⟨h.ok.top, by simp, fun w hw w' hw' a b ha hab => ?_⟩
    rw [List.mem_singleton] at hw'
    subst hw'
    have h1 := (h.ok.fnd a).2 ⟨w, hw, ha⟩
    have h2 : S'.t[b]? = some 41 := by
      rcases hab with q | q
      · exact q ▸ h1
      · exact h.ok.clo a b h1 q
    cases q : (shutW 0 ((v : Int) :: tl')).testBit b
    · rfl
    · exact absurd h2 (hno41 b ((hW b).1 q))
  · intro k y hy h0
    rw [hout k fun q => ?_]
    · exact h.keep k y hy h0
    · have := hnew k q
      rw [hy] at this
      exact h0 (Option.some.inj this)
  · intro k y hy h0 hk
    by_cases q : (k : Int) ∈ (v : Int) :: tl'
    · have h1 := hin k q
      rw [hy] at h1
      have h1 := Option.some.inj h1
      have := h.pre.met_le
      exact ⟨by omega, hfrom k q⟩
    · exact h.late k y (by rw [← hout k q]; exact hy) h0 hk
  · intro y hy h0
    rw [h.t0] at hy
    exact absurd (Option.some.inj hy).symm h0
/-! the walk from one cell -/
def Tw.zero (n : Nat) : Tw := ⟨0, List.replicate n 0, [], []⟩
theorem TwOk.zero {cs : List Cl} (hl : cs.length ≤ 40) : TwOk cs (.zero cs.length) := by
  have get : ∀ (k : Nat) (x : Int), (List.replicate cs.length (0 : Int))[k]? = some x → x = 0 := fun k x hx => by
    rw [List.getElem?_replicate] at hx
    split at hx
    · exact (Option.some.inj hx).symm
    · cases hx
  refine ⟨by simp [Tw.zero], by simp [Tw.zero], hl, by simp [Tw.zero], fun k x hx => ?_, fun x hx => by simp [Tw.zero] at hx, fun k y hy h1 _ => ?_, by simp [Tw.zero], fun k => ?_, fun a b ha _ => ?_, fun w hw => by simp [Tw.zero] at hw, by simp [Tw.zero]⟩
  · have := get k x hx
    omega
  · have := get k y hy
    omega
  · constructor
    · intro hk
      have := get k _ hk
      omega
    · rintro ⟨w, hw, _⟩
      simp [Tw.zero] at hw
  · have := get a _ ha
    omega
/-- the components of all to which a cell leads: together they are that, each leads to itself, and none leads to one that was found behind it -/
structure Comps (cs : List Cl) (v : Nat) (f : List Nat) : Prop where
  len : f.length ≤ 40
  all : ∀ k : Nat, (∃ w ∈ f, w.testBit k = true) ↔ Rch cs [(v : Int)] k
  str : ∀ w ∈ f, ∀ a b : Nat, w.testBit a = true → w.testBit b = true → Rch cs [(a : Int)] b
  top : f.Pairwise fun w w' => ∀ a b : Nat, w.testBit a = true → (a = b ∨ Edge cs a b) → w'.testBit b = false
theorem TwPost.comps {cs : List Cl} {v : Nat} {n : Int} {S' : Tw} (p : TwPost cs (.zero cs.length) v n S') : Comps cs v S'.f := by
  obtain ⟨tl, ho, ht⟩ := p.opn
  have ho' : S'.o = tl := by rw [ho]; simp [Tw.zero]
  have hnil : S'.o = [] := by
    rw [ho']
    apply List.eq_nil_iff_forall_not_mem.2
    intro x hx
    obtain ⟨k, y, h1, _⟩ := p.ok.opn x (ho' ▸ hx)
    obtain ⟨_, z, h2, _⟩ := ht k (h1 ▸ hx)
    simp [Tw.zero] at h2
  have h41 : ∀ k, Vis S' k → S'.t[k]? = some 41 := by
    rintro k ⟨y, h1, h2⟩
    obtain ⟨h3, h4 | h4⟩ := p.ok.rng k y h1
    · have := p.ok.opn' k y h1 (by omega) h4
      rw [hnil] at this
      simp at this
    · exact h4 ▸ h1
  refine ⟨by have := p.ok.few; have := p.ok.met_le; omega, fun k => ?_, p.ok.str, p.ok.top⟩
  rw [← p.ok.fnd]
  constructor
  · intro hk
    refine (p.late k 41 hk (by omega) ?_).2
    have hl := (List.getElem?_eq_some_iff.1 hk).1
    rw [p.ok.len] at hl
    simp [Tw.zero, hl]
  · intro hr
    refine Rch.inside (S := fun k => S'.t[k]? = some 41) (fun j hj => ?_) (fun a b c ha hc hb => p.ok.clo a b ha ⟨c, hc, hb⟩) hr
    rw [List.mem_singleton] at hj
    obtain rfl : j = v := by omega
    exact h41 j p.vis
theorem Comps.lt {cs : List Cl} {v : Nat} {f : List Nat} (C : Comps cs v f) (hv : ∀ k, Rch cs [(v : Int)] k → k < cs.length) (hl : cs.length ≤ 40) {w : Nat} (hw : w ∈ f) : w < 2 ^ 40 := by
  apply Nat.lt_pow_two_of_testBit
  intro i hi
  cases q : w.testBit i
  · rfl
  · have := hv i ((C.all i).1 ⟨w, hw, q⟩)
    omega
end Hps
end Go.Proofs.YthmddmddcdofaaaDoor

namespace Go.Proofs.YthmddmddcdofaaaDoor
namespace Hps
theorem mem_numsB {V : Nat} {x : Int} : x ∈ numsB V ↔ ∃ k : Nat, x = k ∧ k < 64 ∧ V.testBit k = true := by
  unfold numsB
  simp only [List.mem_map, List.mem_filter, List.mem_range]
  constructor
  · rintro ⟨k, ⟨h1, h2⟩, rfl⟩
    exact ⟨k, rfl, h1, h2⟩
  · rintro ⟨k, rfl, h1, h2⟩
    exact ⟨k, ⟨h1, h2⟩, rfl⟩
/-- the references of the cells of a list -/
def refsB (cs : List Cl) (l : List Int) : List Int := (l.map fun x => match cs[x.toNat]? with | some c => c.r | none => []).flatten
theorem refsB_snoc {cs : List Cl} {l : List Int} {k : Nat} {c : Cl} (hc : cs[k]? = some c) : refsB cs (l ++ [(k : Int)]) = refsB cs l ++ c.r := by
  simp [refsB, hc]
theorem mem_refsB {cs : List Cl} {V : Nat} (hV : ∀ i, V.testBit i = true → i < 64) {b : Nat} : (b : Int) ∈ refsB cs (numsB V) ↔ ∃ a, V.testBit a = true ∧ Edge cs a b := by
  unfold refsB
  simp only [List.mem_flatten, List.mem_map]
  constructor
  · rintro ⟨l, ⟨x, hx, rfl⟩, hb⟩
    obtain ⟨a, rfl, _, ha⟩ := mem_numsB.1 hx
    rw [Int.toNat_natCast] at hb
    cases e : cs[a]? with
    | none => rw [e] at hb; simp at hb
    | some c => rw [e] at hb; exact ⟨a, ha, c, e, hb⟩
  · rintro ⟨a, ha, c, hc, hb⟩
    exact ⟨c.r, ⟨(a : Int), mem_numsB.2 ⟨a, rfl, hV a ha, ha⟩, by rw [Int.toNat_natCast, hc]⟩, hb⟩
theorem refsB_len {cs : List Cl} (h3 : ∀ c ∈ cs, c.r.length ≤ 3) : ∀ l : List Int, (refsB cs l).length ≤ 3 * l.length
  | [] => by simp [refsB]
  | x :: l => by
    have ih := refsB_len h3 l
    have e : refsB cs (x :: l) = (match cs[x.toNat]? with | some c => c.r | none => []) ++ refsB cs l := by simp [refsB]
    rw [e, List.length_append, List.length_cons]
    cases q : cs[x.toNat]? with
    | none => simp; omega
    | some c =>
      have := h3 c (List.mem_of_getElem? q)
      simp only
      omega
/-- a cell of the set is among the numbers -/
def hasL (V : Nat) (L : List Int) : Bool := (numsB V).any fun x => decide (x ∈ L)
theorem hasL_iff {V : Nat} (hV : ∀ i, V.testBit i = true → i < 64) {L : List Int} : hasL V L = true ↔ ∃ k : Nat, V.testBit k = true ∧ (k : Int) ∈ L := by
  unfold hasL
  rw [List.any_eq_true]
  constructor
  · rintro ⟨x, hx, hd⟩
    obtain ⟨k, rfl, _, hk⟩ := mem_numsB.1 hx
    exact ⟨k, hk, by simpa using hd⟩
  · rintro ⟨k, hk, hd⟩
    exact ⟨(k : Int), mem_numsB.2 ⟨k, rfl, hV k hk, hk⟩, by simpa using hd⟩
/-- what holds when the components P are taken: L are the numbers to which something that is not dead leads, and D is the set of the dead cells -/
structure DeadSt (h : Hp) (n : Nat) (P : List Nat) (L : List Int) (D : Nat) : Prop where
  sub : ∀ x ∈ outOf h (reachL h.cs [(n : Int)]), x ∈ L
  alv : ∀ k : Nat, (k : Int) ∈ L → Rch h.cs [(n : Int)] k → Alive h n k
  kep : ∀ w ∈ P, ∀ a b : Nat, w.testBit a = true → Alive h n a → Edge h.cs a b → (b : Int) ∈ L
  ded : ∀ k : Nat, D.testBit k = true ↔ ∃ w ∈ P, w.testBit k = true ∧ ¬ Alive h n k
theorem alive_from {h : Hp} {n k : Nat} (ha : Alive h n k) : Rch h.cs [(n : Int)] k := by
  unfold Alive at ha
  induction ha with
  | @root k hk =>
    obtain ⟨j, h1, _, h3, _⟩ := mem_outside.1 hk
    obtain rfl : k = j := by omega
    exact (reachL_some.1 h3).2
  | step _ hc hm ih => exact .step ih hc hm
theorem DeadSt.start {h : Hp} {n : Nat} (hlt : ∀ k, Rch h.cs [(n : Int)] k → k < h.cs.length) : DeadSt h n [] (outOf h (reachL h.cs [(n : Int)])) 0 := by
  refine ⟨fun x hx => hx, fun k hk hr => .root (mem_outside.2 ⟨k, rfl, hlt k hr, reachL_some.2 ⟨hlt k hr, hr⟩, hk⟩), fun w hw => by simp at hw, fun k => by simp⟩
theorem DeadSt.some_ {h : Hp} {n : Nat} {f P Q : List Nat} {L : List Int} {D w : Nat} (C : Comps h.cs n f) (hf : f.reverse = P ++ w :: Q) (S : DeadSt h n P L D) {a : Nat} (ha : Alive h n a) (hw : w.testBit a = true) : ∃ k : Nat, w.testBit k = true ∧ (k : Int) ∈ L := by
  unfold Alive at ha
  induction ha with
  | root hk =>
    obtain ⟨j, h1, _, _, h4⟩ := mem_outside.1 hk
    exact ⟨_, hw, S.sub _ (by rw [h1]; exact h4)⟩
  | @step a' a c h1 h2 h3 ih =>
    by_cases q : w.testBit a' = true
    · exact ih q
    · have hin := (C.all a').2 (alive_from h1)
      obtain ⟨w', hw', hb⟩ := hin
      rw [← List.mem_reverse, hf, List.mem_append, List.mem_cons] at hw'
      rcases hw' with h4 | h4 | h4
      · exact ⟨a, hw, S.kep w' h4 a' a hb h1 ⟨c, h2, h3⟩⟩
      · exact absurd (h4 ▸ hb) q
      · have hp := List.pairwise_reverse.2 C.top
        rw [hf, List.pairwise_append] at hp
        have := (List.pairwise_cons.1 hp.2.1).1 w' h4 a' a hb (.inr ⟨c, h2, h3⟩)
        rw [hw] at this
        cases this
theorem DeadSt.dead {h : Hp} {n : Nat} {f P Q : List Nat} {L : List Int} {D w : Nat} (C : Comps h.cs n f) (hf : f.reverse = P ++ w :: Q) (S : DeadSt h n P L D) (hno : ¬ ∃ k : Nat, w.testBit k = true ∧ (k : Int) ∈ L) : DeadSt h n (P ++ [w]) L (D ||| w) := by
  have hna : ∀ a : Nat, w.testBit a = true → ¬ Alive h n a := fun a hw ha => hno (S.some_ C hf ha hw)
  refine ⟨S.sub, S.alv, fun w' hw' a b h1 h2 h3 => ?_, fun k => ?_⟩
  · rw [List.mem_append, List.mem_singleton] at hw'
    rcases hw' with h4 | h4
    · exact S.kep w' h4 a b h1 h2 h3
    · exact absurd h2 (hna a (h4 ▸ h1))
  · rw [Nat.testBit_or, Bool.or_eq_true, S.ded]
    simp only [List.mem_append, List.mem_singleton]
    constructor
    · rintro (⟨w', h1, h2⟩ | h1)
      · exact ⟨w', .inl h1, h2⟩
      · exact ⟨w, .inr rfl, h1, hna k h1⟩
    · rintro ⟨w', h1 | h1, h2⟩
      · exact .inl ⟨w', h1, h2⟩
      · exact .inr (h1 ▸ h2.1)
theorem DeadSt.alive {h : Hp} {n : Nat} {f P Q : List Nat} {L : List Int} {D w : Nat} (C : Comps h.cs n f) (hf : f.reverse = P ++ w :: Q) (S : DeadSt h n P L D) (hw64 : ∀ i, w.testBit i = true → i < 64) (hso : ∃ k : Nat, w.testBit k = true ∧ (k : Int) ∈ L) : DeadSt h n (P ++ [w]) (L ++ refsB h.cs (numsB w)) D := by
  have hwf : w ∈ f := by rw [← List.mem_reverse, hf]; simp
  have hal : ∀ a : Nat, w.testBit a = true → Alive h n a := by
    obtain ⟨k, h1, h2⟩ := hso
    intro a ha
    exact Rch.then (S.alv k h2 ((C.all k).1 ⟨w, hwf, h1⟩)) (C.str w hwf k a h1 ha)
  refine ⟨fun x hx => List.mem_append.2 (.inl (S.sub x hx)), fun k hk hr => ?_, fun w' hw' a b h1 h2 h3 => ?_, fun k => ?_⟩
  · rw [List.mem_append, mem_refsB hw64] at hk
    rcases hk with hk | ⟨a, h1, c, h2, h3⟩
    · exact S.alv k hk hr
    · exact .step (hal a h1) h2 h3
  · rw [List.mem_append, List.mem_singleton] at hw'
    rw [List.mem_append, mem_refsB hw64]
    rcases hw' with h4 | h4
    · exact .inl (S.kep w' h4 a b h1 h2 h3)
    · exact .inr ⟨a, h4 ▸ h1, h3⟩
  · rw [S.ded]
    simp only [List.mem_append, List.mem_singleton]
    constructor
    · rintro ⟨w', h1, h2⟩
      exact ⟨w', .inl h1, h2⟩
    · rintro ⟨w', h1 | h1, h2, h3⟩
      · exact ⟨w', h1, h2, h3⟩
      · exact absurd (hal k (h1 ▸ h2)) h3
theorem DeadSt.fin {h : Hp} {n : Nat} {f : List Nat} {L : List Int} {D : Nat} (C : Comps h.cs n f) (S : DeadSt h n f.reverse L D) (hlt : ∀ k, Rch h.cs [(n : Int)] k → k < h.cs.length) : D = Bm.wordN (deadL h (n : Int)) true := by
  apply Nat.eq_of_testBit_eq
  intro k
  rw [Bm.wordN_bit, Bool.eq_iff_iff, S.ded, decide_eq_true_eq, dead_iff]
  constructor
  · rintro ⟨w, h1, h2, h3⟩
    have := (C.all k).1 ⟨w, List.mem_reverse.1 h1, h2⟩
    exact ⟨hlt k this, this, h3⟩
  · rintro ⟨_, h2, h3⟩
    obtain ⟨w, h4, h5⟩ := (C.all k).2 h2
    exact ⟨w, List.mem_reverse.2 h4, h5, h3⟩
end Hps
end Go.Proofs.YthmddmddcdofaaaDoor

namespace Go.Proofs.YthmddmddcdofaaaDoor
open Go.RowKit
/-- the slice value '.slice A n _' reads as the sets xs, and lies below block B -/
def US (w : World) (B : Nat) (A : Option Addr) (n : Nat) (xs : List Int) : Prop :=
  xs.length = n ∧ (0 < n → ∃ g o, A = some ⟨g, o, none⟩ ∧ g < B ∧ ∀ (k : Nat) (b : Int), xs[k]? = some b → w.cell? ⟨g, o + k, none⟩ = some (.int .u64 b))
section
variable {w w' : World} {B B' n : Nat} {A : Option Addr} {xs : List Int}
theorem US.keep (h : US w B A n xs) (hk : ∀ p : Addr, p.block < B → w'.cell? p = w.cell? p) : US w' B A n xs :=
  ⟨h.1, fun hn => by
    obtain ⟨g, o, e, hb, hc⟩ := h.2 hn
    exact ⟨g, o, e, hb, fun k x hx => (hk _ hb).trans (hc k x hx)⟩⟩
theorem US.more (h : US w B A n xs) (hB : B ≤ B') : US w B' A n xs :=
  ⟨h.1, fun hn => by
    obtain ⟨g, o, e, hb, hc⟩ := h.2 hn
    exact ⟨g, o, e, by omega, hc⟩⟩
theorem US.below (h : US w B A n xs) (hb : Below B w w') : US w' B A n xs := h.keep fun _ hp => hb.cell hp
theorem US.up {w w' : World} {n : Nat} {A : Option Addr} {xs : List Int} (h : US w w.heap.size A n xs) (hb : Below w.heap.size w w') : US w' w'.heap.size A n xs := (h.below hb).more hb.size
theorem US.at_ {k : Nat} (h : US w B A n xs) (hk : k < n) : ∃ g o b, A = some ⟨g, o, none⟩ ∧ g < B ∧ xs[k]? = some b ∧ w.cell? ⟨g, o + k, none⟩ = some (.int .u64 b) := by
  obtain ⟨g, o, e, hb, hc⟩ := h.2 (by omega)
  have hl : k < xs.length := by have := h.1; omega
  have hx := List.getElem?_eq_getElem hl
  exact ⟨g, o, _, e, hb, hx, hc k _ hx⟩
end
/-- the value v owns the sets xs, in a row from block 'base' on -/
def OwnU (w : World) (base : Nat) (v : Value) (xs : List Int) : Prop := w.ownsRow base 95 1 v xs.length (xs.map (.int .u64))
theorem OwnU.form {w : World} {base : Nat} {v : Value} {xs : List Int} (h : OwnU w base v xs) : ∃ A c, v = .slice A xs.length c ∧ (0 < xs.length → ∃ g, A = some ⟨g, 0, none⟩ ∧ base ≤ g ∧ g < w.heap.size) := by
  rcases h.2 with ⟨rfl, h0⟩ | ⟨g, cap, cur, rfl, hb, hh, _⟩
  · exact ⟨none, 0, by rw [h0], fun h => by omega⟩
  · exact ⟨some ⟨g, 0, none⟩, cap, rfl, fun _ => ⟨g, rfl, hb, (Array.getElem?_eq_some_iff.1 hh).1⟩⟩
theorem OwnU.reads {w : World} {base n c : Nat} {A : Option Addr} {xs : List Int} (h : OwnU w base (.slice A n c) xs) : US w w.heap.size A n xs := by
  rcases h.2 with ⟨e, h0⟩ | ⟨g, cap, cur, e, hb, hh, _⟩
  · injection e with e1 e2 e3
    subst e2
    have : xs = [] := List.eq_nil_of_length_eq_zero h0
    subst this
    exact ⟨rfl, fun h => by omega⟩
  · injection e with e1 e2 e3
    subst e1 e2 e3
    refine ⟨rfl, fun hn => ⟨g, 0, rfl, (Array.getElem?_eq_some_iff.1 hh).1, fun k x hx => ?_⟩⟩
    have hk : k < xs.length := (List.getElem?_eq_some_iff.1 hx).1
    have c1 := World.ownsRow.cellAt h k (by omega)
    rw [Nat.zero_add]
    refine c1.trans ?_
    rw [List.getElem?_map, hx]
    rfl
theorem OwnU.below {w w' : World} {base B : Nat} {v : Value} {xs : List Int} (h : OwnU w base v xs) (hb : Below B w w') (hB : w.heap.size ≤ B) : OwnU w' base v xs := by
  refine ⟨h.1, ?_⟩
  rcases h.2 with h0 | ⟨g, cap, cur, e, hb', hh, hr⟩
  · exact .inl h0
  · exact .inr ⟨g, cap, cur, e, hb', (hb.block g (Nat.lt_of_lt_of_le (Array.getElem?_eq_some_iff.1 hh).1 hB)).trans hh, hr⟩
theorem OwnU.base {w : World} {base base' : Nat} {v : Value} {xs : List Int} (h : OwnU w base v xs) (hb : base' ≤ base) : OwnU w base' v xs := by
  refine ⟨h.1, ?_⟩
  rcases h.2 with h0 | ⟨g, cap, cur, e, hb', hh, hr⟩
  · exact .inl h0
  · exact .inr ⟨g, cap, cur, e, by omega, hh, hr⟩
theorem OwnU.far {w w' : World} {base : Nat} {v : Value} {xs : List Int} {row : Option Nat} (h : OwnU w base v xs) (hg : w.grownBy w' row) (hne : v.ownBlock = none ∨ v.ownBlock ≠ row) : OwnU w' base v xs := World.ownsRow.kept h hg hne
theorem OwnU.cast {w : World} {base : Nat} {v : Value} {xs ys : List Int} (e : xs = ys) (h : OwnU w base v xs) : OwnU w base v ys := e ▸ h
theorem OwnU.cap {w : World} {base n c : Nat} {A : Option Addr} {xs : List Int} (h : OwnU w base (.slice A n c) xs) : n = xs.length ∧ n ≤ c := by
  rcases h.2 with ⟨e, h0⟩ | ⟨g, cap, cur, e, _, _, hc, _⟩
  · injection e with e1 e2 e3
    omega
  · injection e with e1 e2 e3
    omega
theorem own_oneU (w : World) (b : Int) (base : Nat) (hb : base ≤ w.heap.size) : OwnU (w.alloc (.cells #[.int .u64 b] 95)) base (.slice (some ⟨w.heap.size, 0, none⟩) 1 1) [b] :=
  World.ownsRow_lit (base := base) (e := 95) (size := 1) w #[.int .u64 b] 1 hb (by unfold maxLen; omega) rfl
/-- one word of an owned row is written -/
theorem OwnU.put {w : World} {base g c j : Nat} {xs : List Int} (h : OwnU w base (.slice (some ⟨g, 0, none⟩) xs.length c) xs) (b : Int) :
    OwnU (w.setCell ⟨g, j, none⟩ (.int .u64 b)) base (.slice (some ⟨g, 0, none⟩) xs.length c) (xs.set j b) := by
  have := (World.ownsRow.stored h j (.int .u64 b)).1
  unfold OwnU
  rw [List.length_set, List.map_set]
  exact this
theorem info_set : (Tryd.prog.info? 95).map (fun i => (i.zero, i.size, i.bytes)) = some (some (.int .u64 0), 1, 8) := by kernel_rfl
theorem run_appendU (w : World) (base : Nat) (v : Value) (xs : List Int) (hown : OwnU w base v xs) (A : Option Addr) (m c B : Nat) (ys : List Int) (hr : US w B A m ys) (hn : xs.length + m ≤ 1099511627776) (hbase : base ≤ w.heap.size) (ty : TypeId) :
    ∃ v' w', (Builtin.append_ #[157, 157] ty #[v, .slice A m c]).run Tryd.prog w = .ok v' w' ∧ OwnU w' base v' (xs ++ ys) ∧ w.grownBy w' v.ownBlock ∧ (v'.ownBlock = v.ownBlock ∨ v'.ownBlock = some w.heap.size) := by
  obtain ⟨i0, hi0, hz0, hz1, hz2⟩ := info_parts info_set
  have hm := hr.1
  rcases A with _ | ad
  · have h0 : m = 0 := by
      rcases Nat.eq_zero_or_pos m with h0 | h0
      · exact h0
      · obtain ⟨g, o, e, _⟩ := hr.2 h0
        cases e
    subst h0
    have : ys = [] := List.eq_nil_of_length_eq_zero hm
    subst this
    refine ⟨v, w, ?_, by simpa using hown, World.grownBy.refl _ _, .inl rfl⟩
    rcases hown.2 with ⟨rfl, _⟩ | ⟨g, cap, cur, rfl, _, _, hnc, _⟩
    · simp [Builtin.append_, run_underlying Tryd.underlying157, sizeOf, typeInfo, hi0, Builtin.lenOf, Builtin.firstCells]
    · simp [Builtin.append_, run_underlying Tryd.underlying157, sizeOf, typeInfo, hi0, Builtin.lenOf, Builtin.firstCells, hnc, storeCells]
  · have hcells : ∀ j u, (ys.map (Value.int .u64))[j]? = some u → w.cell? (ad.add j) = some u := by
      intro j u hj
      rcases Nat.eq_zero_or_pos m with h0 | h0
      · subst h0
        have : ys = [] := List.eq_nil_of_length_eq_zero hm
        subst this
        simp at hj
      · obtain ⟨g, o, e, _, hc⟩ := hr.2 h0
        replace e := Option.some.inj e
        subst e
        rw [add_lit]
        rw [List.getElem?_map] at hj
        cases hy : ys[j]? with
        | none => rw [hy] at hj; cases hj
        | some b =>
          rw [hy] at hj
          replace hj := Option.some.inj hj
          subst hj
          exact hc j b hy
    obtain ⟨v', w', hrun, h2, h3, _, h5⟩ := run_append_own_at (P := Tryd.prog) w base 157 ty 95 i0 _ 1 8 Tryd.underlying157 hi0 hz0 hz1 hz2 rfl (by omega) v xs.length (xs.map (.int .u64)) hown ad m c (ys.map (.int .u64))
      (by rw [List.length_map, hm]; omega) hcells (by intro u hu; obtain ⟨b, _, rfl⟩ := List.mem_map.1 hu; rfl) (by unfold maxLen; omega) (by omega) hbase
    refine ⟨v', w', hrun, ?_, h3, h5⟩
    unfold OwnU
    rw [List.map_append, List.length_append, hm]
    exact h2
theorem wpList_appendU {w : World} {ops : Array Oper} {rest : List Oper} {o : Oper} {a : Act} {Q : Exit → Act → World → Prop} (hgd : o.guard = none) (s x : Operand)
    (ho : o.op = .call { callee := .builtin .append, args := #[s, x], argTypes := #[157, 157] })
    (base : Nat) (v : Value) (xs : List Int) (hs : a.eval s = v) (hown : OwnU w base v xs) (A : Option Addr) (m c B : Nat) (ys : List Int) (hx : a.eval x = .slice A m c) (hr : US w B A m ys)
    (hn : xs.length + m ≤ 1099511627776) (hbase : base ≤ w.heap.size)
    (h : ∀ v' w', OwnU w' base v' (xs ++ ys) → w.grownBy w' v.ownBlock → (v'.ownBlock = v.ownBlock ∨ v'.ownBlock = some w.heap.size) → wpList Tryd.prog ops Q rest (a.put o.dst v') w') : wpList Tryd.prog ops Q (o :: rest) a w :=
  wpList_plain hgd fun _ hK => by
    obtain ⟨v', w', hrun, h2, h3, h4⟩ := run_appendU w base v xs hown A m c B ys hr hn hbase o.type
    unfold Oper.wp execOp
    simp only [ho, resolve, invoke, builtin, Sem.run_bind, Sem.run_pure, Result.andThen_ok, List.map_toArray, List.map_cons, List.map_nil, hs, hx, hrun]
    exact hK _ _ (h v' w' h2 h3 h4)
theorem OwnU.put' {w : World} {base g c j n : Nat} {xs : List Int} (h : OwnU w base (.slice (some ⟨g, 0, none⟩) n c) xs) (hn : xs.length = n) (b : Int) :
    OwnU (w.setCell ⟨g, j, none⟩ (.int .u64 b)) base (.slice (some ⟨g, 0, none⟩) n c) (xs.set j b) := by
  subst hn
  exact h.put b
theorem OwnU.frozen {w : World} {base g c n : Nat} {xs : List Int} (h : OwnU w base (.slice (some ⟨g, 0, none⟩) n c) xs) (hn : xs.length = n) (i : Nat) : w.frozen? ⟨g, i, none⟩ = false := by
  subst hn
  exact World.ownsRow.frozenAt h i
end Go.Proofs.YthmddmddcdofaaaDoor

namespace Go.Proofs.YthmddmddcdofaaaDoor
open Go.RowKit
set_option maxRecDepth 100000
theorem rows_type {w : World} {b1 b2 s1 s2 n1 n2 : Nat} {e1 e2 : TypeId} {v1 v2 : Value} {xs ys : List Value} (h : w.ownsRow b1 e1 s1 v1 n1 xs) (h' : w.ownsRow b2 e2 s2 v2 n2 ys) (hne : e1 ≠ e2) : v1.ownBlock = none ∨ v1.ownBlock ≠ v2.ownBlock := by
  rcases h.2 with ⟨rfl, _⟩ | ⟨g, cap, cur, rfl, _, hh, _⟩
  · exact .inl rfl
  · right
    intro e
    rcases h'.2 with ⟨rfl, _⟩ | ⟨g', cap', cur', rfl, _, hh', _⟩
    · cases e
    · obtain rfl : g = g' := Option.some.inj e
      rw [hh] at hh'
      injection hh' with hh'
      injection hh' with _ h2
      exact hne h2
/-- components as numbers -/
def natsI (f : List Nat) : List Int := f.map fun (k : Nat) => (k : Int)
theorem natsI_snoc (f : List Nat) (w : Nat) : natsI f ++ [(w : Int)] = natsI (f ++ [w]) := by simp [natsI]
theorem natsI_len (f : List Nat) : (natsI f).length = f.length := by simp [natsI]
/-- a walk in the box b: its times in block g, all from block B on -/
structure WkSt (w : World) (B b g : Nat) (vc : Value) (n : Nat) (ov fv : Value) (S : Hps.Tw) : Prop where
  t : OwnI w B (.slice (some ⟨g, 0, none⟩) n n) S.t
  o : OwnI w B ov S.o
  f : OwnU w B fv (natsI S.f)
  sep : ov.ownBlock ≠ some g
  box : Rw w b 173 #[vc, .int .i64 S.met, .slice (some ⟨g, 0, none⟩) n n, ov, fv]
  lo : B ≤ b
  len : S.t.length = n
section
variable {w w' : World} {B b g n : Nat} {vc ov fv : Value} {S : Hps.Tw}
theorem WkSt.ne (W : WkSt w B b g vc n ov fv S) : b ≠ g ∧ some b ≠ ov.ownBlock ∧ some b ≠ fv.ownBlock := by
  refine ⟨fun e => ?_, row_type W.o W.box (by decide), row_type W.f W.box (by decide)⟩
  have h1 : some b ≠ some g := row_type W.t W.box (by decide)
  exact h1 (by rw [e])
theorem WkSt.up (W : WkSt w B b g vc n ov fv S) (h : Below w.heap.size w w') : WkSt w' B b g vc n ov fv S :=
  ⟨W.t.below h (Nat.le_refl _), W.o.below h (Nat.le_refl _), W.f.below h (Nat.le_refl _), W.sep, W.box.keep h W.box.lt, W.lo, W.len⟩
theorem WkSt.t_at (W : WkSt w B b g vc n ov fv S) {k : Nat} {x : Int} (h : S.t[k]? = some x) : w.cell? ⟨g, k, none⟩ = some (.int .i64 x) := by
  have hk : k < n := by have := (List.getElem?_eq_some_iff.1 h).1; have := W.len; omega
  obtain ⟨g', o', y, e1, _, hy, c1⟩ := W.t.reads.at_ hk
  injection e1 with e1
  injection e1 with e2 e3
  subst e2 e3
  rw [Nat.zero_add] at c1
  rw [h] at hy
  rw [c1, ← Option.some.inj hy]
theorem WkSt.met (W : WkSt w B b g vc n ov fv S) (m : Nat) : WkSt (w.setCell ⟨b, 1, none⟩ (.int .i64 m)) B b g vc n ov fv ⟨m, S.t, S.o, S.f⟩ := by
  obtain ⟨h1, h2, h3⟩ := W.ne
  have hp := put_any w b 1 (.int .i64 m)
  exact ⟨W.t.far hp (.inr fun e => h1 (Option.some.inj e).symm), W.o.far hp (.inr h2.symm), W.f.far hp (.inr h3.symm), W.sep, W.box.put 1 _, W.lo, W.len⟩
theorem WkSt.time (W : WkSt w B b g vc n ov fv S) (k : Nat) (x : Int) : WkSt (w.setCell ⟨g, k, none⟩ (.int .i64 x)) B b g vc n ov fv ⟨S.met, S.t.set k x, S.o, S.f⟩ := by
  have hp := put_any w g k (.int .i64 x)
  have h4 := rows_type W.f W.t (by decide)
  exact ⟨W.t.put' W.len x, W.o.far hp (.inr W.sep), W.f.far hp h4, W.sep, W.box.other W.ne.1 _, W.lo, by simpa using W.len⟩
/-- another slice of numbers goes into the box -/
theorem WkSt.seto {ov' : Value} {l : List Int} (W : WkSt w B b g vc n ov fv S) (ho : OwnI w B ov' l) (hs : ov'.ownBlock ≠ some g) : WkSt (w.setCell ⟨b, 3, none⟩ ov') B b g vc n ov' fv ⟨S.met, S.t, l, S.f⟩ := by
  obtain ⟨h1, h2, h3⟩ := W.ne
  have h4 : some b ≠ ov'.ownBlock := row_type ho W.box (by decide)
  have hp := put_any w b 3 ov'
  exact ⟨W.t.far hp (.inr fun e => h1 (Option.some.inj e).symm), ho.far hp (.inr h4.symm), W.f.far hp (.inr h3.symm), hs, W.box.put 3 _, W.lo, W.len⟩
/-- what an append to the numbers leaves as it was -/
theorem WkSt.grow (W : WkSt w B b g vc n ov fv S) {ov' : Value} {l : List Int} (ho : OwnI w' B ov' l) (hg : w.grownBy w' ov.ownBlock) (hq : ov'.ownBlock = ov.ownBlock ∨ ov'.ownBlock = some w.heap.size) : WkSt (w'.setCell ⟨b, 3, none⟩ ov') B b g vc n ov' fv ⟨S.met, S.t, l, S.f⟩ ∧ w'.frozen? ⟨b, 3, none⟩ = false ∧ w'.cell? ⟨b, 3, none⟩ = some ov := by
  obtain ⟨h1, h2, h3⟩ := W.ne
  have bx := W.box.far hg h2
  have ht : OwnI w' B (.slice (some ⟨g, 0, none⟩) n n) S.t := W.t.far hg (.inr fun e => W.sep e.symm)
  have hf : OwnU w' B fv (natsI S.f) := W.f.far hg (rows_type W.f W.o (by decide))
  have h4 : some b ≠ ov'.ownBlock := row_type ho bx (by decide)
  have hp := put_any w' b 3 ov'
  refine ⟨⟨ht.far hp (.inr fun e => h1 (Option.some.inj e).symm), ho.far hp (.inr h4.symm), hf.far hp (.inr h3.symm), ?_, bx.put 3 _, W.lo, W.len⟩, bx.frozen 3, bx.cell 3⟩
  rcases hq with e | e
  · rw [e]; exact W.sep
  · rw [e]
    intro e2
    have := (World.ownsRow.lt W.t g rfl).2
    have := Option.some.inj e2
    omega
theorem WkSt.growf (W : WkSt w B b g vc n ov fv S) {fv' : Value} {l : List Nat} (ho : OwnU w' B fv' (natsI l)) (hg : w.grownBy w' fv.ownBlock) : WkSt (w'.setCell ⟨b, 4, none⟩ fv') B b g vc n ov fv' ⟨S.met, S.t, S.o, l⟩ ∧ w'.frozen? ⟨b, 4, none⟩ = false ∧ w'.cell? ⟨b, 4, none⟩ = some fv := by
  obtain ⟨h1, h2, h3⟩ := W.ne
  have bx := W.box.far hg h3
  have ht : OwnI w' B (.slice (some ⟨g, 0, none⟩) n n) S.t := W.t.far hg (rows_type W.t W.f (by decide))
  have hov : OwnI w' B ov S.o := W.o.far hg (rows_type W.o W.f (by decide))
  have h4 : some b ≠ fv'.ownBlock := row_type ho bx (by decide)
  have hp := put_any w' b 4 fv'
  exact ⟨⟨ht.far hp (.inr fun e => h1 (Option.some.inj e).symm), hov.far hp (.inr h2.symm), ho.far hp (.inr h4.symm), W.sep, bx.put 4 _, W.lo, W.len⟩, bx.frozen 4, bx.cell 4⟩
end
namespace Hps
theorem shutW_lt {l : List Int} {n : Nat} (h : ∀ x ∈ l, ∃ k : Nat, x = k ∧ k < n) (hn : n ≤ 40) : shutW 0 l < 18446744073709551616 := by
  refine Nat.lt_trans (Nat.lt_pow_two_of_testBit (n := 40) _ fun i hi => ?_) (by decide)
  rw [shutW_at _ _ fun x hx => by obtain ⟨k, h1, _⟩ := h x hx; omega]
  have : (i : Int) ∉ l := fun hm => by
    obtain ⟨k, h1, h2⟩ := h _ hm
    omega
  simp [this]
end Hps
theorem index_any (A : Option Addr) (n c : Nat) (x : Int) (pre tl : List Int) (w : World) (h : IS w w.heap.size A n (pre ++ x :: tl)) (hx : x ∉ pre) (_hn : n ≤ 1099511627776) :
    Calls Tryd.prog 163 #[.slice A n c, .int .i64 x] w fun e w' => e = .returned (.int .i64 pre.length) ∧ w = w' := by
  have hl := h.1
  rw [List.length_append, List.length_cons] at hl
  have HX := Lib.hid hx
  clear hx
  go_enter Tryd.func163, Tryd.ntmps163
  go_wp2_with fail
  go_loopw [8] (fun i wr => ∃ k : Nat, k ≤ pre.length ∧ i = .int .i64 k ∧ wr = w) (fun i _ => n - (intOf i).toNat)
  case atStart => exact ⟨0, Nat.zero_le _, rfl, rfl⟩
  case round =>
    obtain ⟨k, hk, rfl, rfl⟩ := hrel
    obtain ⟨g, o, y, rfl, hg, hy, c1⟩ := h.at_ (k := k) (by omega)
    have hlt' : (k : Int) < n := by omega
    rcases Nat.lt_or_ge k pre.length with h1 | h1
    · have hne : (x == y) = false := by
        rw [beq_eq_false_iff_ne]
        rintro rfl
        rw [List.getElem?_append_left h1] at hy
        exact HX.out (List.mem_of_getElem? hy)
      clear hy
      go_wp2_with fail
      go_roundw
      case rel => exact ⟨k + 1, by omega, by go_num, trivial⟩
      case measure => simp [intOf]; omega
    · have hkp : k = pre.length := by omega
      have hxy : y = x := by
        rw [List.getElem?_append_right h1, hkp, Nat.sub_self] at hy
        exact (Option.some.inj hy).symm
      subst hxy
      have HK := Lib.hid hkp
      clear hy hkp
      go_wp2_with fail
      go_ret
      exact ⟨by rw [HK.out]; rfl, rfl⟩
set_option maxHeartbeats 2000000 in
theorem findComponent_any (B b g n : Nat) (vc ov fv : Value) (S : Hps.Tw) (v : Nat) (pre tl : List Int) (w : World) (W : WkSt w B b g vc n ov fv S) (ho : S.o = pre ++ (v : Int) :: tl) (hpre : (v : Int) ∉ pre)
    (hall : ∀ x ∈ (v : Int) :: tl, ∃ k : Nat, x = k ∧ k < n) (hn : n ≤ 40) (hol : S.o.length ≤ 40) (hfl : S.f.length ≤ 40) (hB : B ≤ w.heap.size) :
    Calls Tryd.prog 162 #[.pointer (some ⟨b, 0, none⟩), .int .i64 v] w fun e w' => e = .returned (.tuple #[]) ∧
      ∃ ov' fv', WkSt w' B b g vc n ov' fv' ⟨S.met, Hps.shutT S.t ((v : Int) :: tl), pre, S.f ++ [Hps.shutW 0 ((v : Int) :: tl)]⟩ ∧ Below B w w' := by
  obtain ⟨L, hL⟩ : ∃ L, (v : Int) :: tl = L := ⟨_, rfl⟩
  have HO := Lib.hid ho
  have HOW := W.o
  rw [ho] at HOW
  obtain ⟨A, c, rfl, hA⟩ := HOW.form
  obtain ⟨p, hp⟩ : ∃ p, pre.length = p := ⟨_, rfl⟩
  obtain ⟨q, hq⟩ : ∃ q, L.length = q := ⟨_, rfl⟩
  have hlen : (pre ++ (v : Int) :: tl).length = p + q := by rw [hL, List.length_append, hp, hq]
  have hq1 : 1 ≤ q := by rw [← hq, ← hL]; simp
  rw [hlen] at W HOW hA
  obtain ⟨go, rfl, hgB, hgl⟩ := hA (by omega)
  have hcap := HOW.cap.2
  rw [hL] at hall ⊢
  have hpq : p + q ≤ 40 := by rw [← hlen, ← ho]; exact hol
  have HALL := Lib.hid hall
  have hrd := HOW.reads
  have x3 : w.cell? ⟨b, 3, none⟩ = some (.slice (some ⟨go, 0, none⟩) (p + q : Nat) c) := W.box.cell 3
  have HTL : Hid (∀ (k : Nat) (x : Int), L[k]? = some x → (pre ++ (v : Int) :: tl)[p + k]? = some x) := Lib.hid fun k x hk => by
    rw [hL, List.getElem?_append_right (by omega), ← hk]
    congr 1
    omega
  have hpc : (p : Int) ≤ (p + q : Nat) := by omega
  have hsub : ((p + q : Nat) : Int) - p = q := by omega
  clear hall
  go_enter Tryd.func162, Tryd.ntmps162
  go_wp2_with fail
  refine (index_any _ _ _ (v : Int) pre tl w hrd hpre (by omega)).mono ?_
  rw [hp]
  rintro e w1 ⟨rfl, rfl⟩
  go_wp2_with fail
  go_loopw [5, 21] (fun cv i wr => ∃ k : Nat, k ≤ q ∧ i = .int .i64 k ∧ cv = .int .u64 (Hps.shutW 0 (L.take k) : Nat) ∧ WkSt wr B b g vc n (.slice (some ⟨go, 0, none⟩) (p + q) c) fv ⟨S.met, Hps.shutT S.t (L.take k), S.o, S.f⟩ ∧ Below B w wr) (fun _ i _ => q - (intOf i).toNat)
  case atStart => exact ⟨0, Nat.zero_le _, rfl, rfl, W, Below.refl _ _⟩
  case round =>
    clear W HOW hrd x3 hA
    obtain ⟨k, hk, rfl, rfl, W, bb⟩ := hrel
    have HOW := W.o
    rw [HO.out] at HOW
    have x3 : wr.cell? ⟨b, 3, none⟩ = some (.slice (some ⟨go, 0, none⟩) (p + q : Nat) c) := W.box.cell 3
    have x2 : wr.cell? ⟨b, 2, none⟩ = some (.slice (some ⟨g, 0, none⟩) n n) := W.box.cell 2
    have f3 : wr.frozen? ⟨b, 3, none⟩ = false := W.box.frozen 3
    by_cases hlt : k < q
    · have hxk := List.getElem?_eq_getElem (show k < L.length by omega)
      obtain ⟨kk, hkk, hkn⟩ := HALL.out _ (List.mem_of_getElem? hxk)
      rw [hkk] at hxk
      have hxo := HTL.out k _ hxk
      obtain ⟨g', o', y, e1, _, hy, c1⟩ := HOW.reads.at_ (k := p + k) (by omega)
      injection e1 with e1
      injection e1 with e2 e3
      subst e2 e3
      rw [Nat.zero_add] at c1
      rw [hxo] at hy
      obtain rfl := Option.some.inj hy
      obtain ⟨g', o', y2, e1, _, _, c2⟩ := W.t.reads.at_ (k := kk) hkn
      injection e1 with e1
      injection e1 with e2 e3
      subst e2 e3
      rw [Nat.zero_add] at c2
      have fz : wr.frozen? ⟨g, kk, none⟩ = false := W.t.frozen W.len kk
      have hV := Hps.shutW_lt (l := L.take k) (fun x hx => HALL.out x (List.mem_of_mem_take hx)) hn
      have HT := Lib.hid (take_snocI hxk)
      have hlt' : (k : Int) < q := by omega
      have hkn' : (kk : Int) < n := by omega
      have hkneg : ¬ ((kk : Int) < 0) := by omega
      obtain ⟨p1, p2, p3⟩ := Hps.pow_in (k := kk) (by omega)
      have hor := Hps.or_in (V := Hps.shutW 0 (L.take k)) (k := kk) hV (by omega)
      have SW := Lib.hid (show Hps.shutW 0 (L.take (k + 1)) = Hps.shutW 0 (L.take k) ||| 2 ^ kk by rw [HT.out, Hps.shutW_snoc]; rfl)
      have SS := Lib.hid (show WkSt (wr.setCell ⟨g, kk, none⟩ (.int .i64 41)) B b g vc n (.slice (some ⟨go, 0, none⟩) (p + q) c) fv ⟨S.met, Hps.shutT S.t (L.take (k + 1)), S.o, S.f⟩ by
        have := W.time kk 41
        rw [HT.out, Hps.shutT_snoc]
        exact this)
      have bn := bb.setCell (p := ⟨g, kk, none⟩) (World.ownsRow.lt W.t g rfl).1 (.int .i64 41)
      obtain ⟨V, hVV⟩ : ∃ V, Hps.shutW 0 (L.take k) = V := ⟨_, rfl⟩
      rw [hVV] at hor SW
      have HVV := Lib.hid hVV
      rw [HVV.out]
      clear hxk hkk hxo hVV hV W HOW
      go_wp2_with fail
      go_roundw
      case rel => exact ⟨k + 1, by omega, by go_num, by rw [SW.out], SS.out, bn⟩
      case measure => simp [intOf]; omega
    · obtain rfl : k = q := by omega
      rw [List.take_of_length_le (by omega)] at W ⊢
      have oc := OwnI.cast (show (pre ++ (v : Int) :: tl).take p = pre by rw [← hp]; simp) (HOW.cut (k := p) (by omega))
      have W2 := W.seto oc W.sep
      have b2 := bb.setCell (p := ⟨b, 3, none⟩) W.lo (.slice (some ⟨go, 0, none⟩) p c)
      have hV := Hps.shutW_lt (l := L) HALL.out hn
      obtain ⟨V, hVV⟩ : ∃ V, Hps.shutW 0 L = V := ⟨_, rfl⟩
      rw [hVV] at hV ⊢
      obtain ⟨w2, hw2⟩ : ∃ w2, wr.setCell ⟨b, 3, none⟩ (.slice (some ⟨go, 0, none⟩) p c) = w2 := ⟨_, rfl⟩
      rw [hw2] at W2 b2
      have x4 : w2.cell? ⟨b, 4, none⟩ = some fv := W2.box.cell 4
      have SA := W2.up ((Below.refl w2.heap.size w2).alloc (Nat.le_refl _) (.cells #[.int .u64 V] 95))
      have rr : US (w2.alloc (.cells #[.int .u64 V] 95)) (w2.alloc (.cells #[.int .u64 V] 95)).heap.size (some ⟨w2.heap.size, 0, none⟩) 1 [(V : Int)] := (own_oneU w2 V 0 (Nat.zero_le _)).reads
      have sz2 := b2.size
      have hsz : B ≤ (w2.alloc (.cells #[.int .u64 V] 95)).heap.size := by simp; omega
      have bna := b2.alloc (by omega) (.cells #[.int .u64 V] 95)
      have hpc2 : (p : Int) ≤ c := by omega
      have hfl2 : (natsI S.f).length + 1 ≤ 1099511627776 := by rw [natsI_len]; omega
      clear HOW W oc
      go_wp2_with (at_builtin; refine wpList_appendU rfl (.tmp 49) (.tmp 51) rfl B _ (natsI S.f) rfl SA.f (some ⟨w2.heap.size, 0, none⟩) 1 1 _ [(V : Int)] rfl rr hfl2 hsz ?_; intro v5 w5 o5 g5 _s5; rw [natsI_snoc] at o5; obtain ⟨S5, f5, z5⟩ := SA.growf o5 g5; have bn5 := (bna.grown g5 hsz (fun k hk => (World.ownsRow.lt SA.f k hk).1)).setCell (p := ⟨b, 4, none⟩) SA.lo v5; obtain ⟨A5, c5, e5, _⟩ := o5.form; generalize (natsI (S.f ++ [V])).length = l5 at e5; clear o5 g5; subst e5)
      exact bodyPost_end (results_none rfl _ _ _) rfl ⟨rfl, ⟨_, _, S5⟩, bn5⟩
end Go.Proofs.YthmddmddcdofaaaDoor

namespace Go.Proofs.YthmddmddcdofaaaDoor
open Go.RowKit
set_option maxRecDepth 100000
/-- a visit returns a time and leaves a walk behind that is as it must be -/
def VisitGave (w0 : World) (B b g n c : Nat) (A : Option Addr) (cs : List Cl) (S : Hps.Tw) (v : Nat) (e : Ending) (w' : World) : Prop :=
  ∃ (m : Int) (ov' fv' : Value) (S' : Hps.Tw), e = .returned (.int .i64 m) ∧ Hps.TwPost cs S v m S' ∧ WkSt w' B b g (.slice A n c) n ov' fv' S' ∧ Below B w0 w'
/-- a cell that was met before -/
theorem visit_seen (w0 : World) (B b g n c : Nat) (A : Option Addr) (cs : List Cl) (v : Nat) (w : World) (ov fv : Value) (S : Hps.Tw) (y : Int) (hy : S.t[v]? = some y) (h0 : y ≠ 0) (ok : Hps.TwOk cs S) (W : WkSt w B b g (.slice A n c) n ov fv S) (bb : Below B w0 w) :
    Calls Tryd.prog 156 #[.pointer (some ⟨b, 0, none⟩), .int .i64 v] w (VisitGave w0 B b g n c A cs S v) := by
  have c1 := W.t_at hy
  have x2 : w.cell? ⟨b, 2, none⟩ = some (.slice (some ⟨g, 0, none⟩) n n) := W.box.cell 2
  have hv' : (v : Int) < n := by have := (List.getElem?_eq_some_iff.1 hy).1; have := W.len; omega
  have P := Lib.hid (Hps.TwPost.seen ok hy h0)
  have hy0 : y > 0 := by have := (ok.rng v y hy).1; omega
  clear hy ok
  go_enter Tryd.func156, Tryd.ntmps156
  go_wp2_with fail
  go_ret
  exact ⟨y, ov, fv, S, rfl, P.out, W, bb⟩
set_option maxHeartbeats 4000000 in
theorem visit_any (w0 : World) (B b g n c : Nat) (A : Option Addr) (cs : List Cl) (hcs : CS w0 B A n cs) (hrf : ∀ cl ∈ cs, Hps.okRefs cs cl.r = true) (h3 : ∀ cl ∈ cs, cl.r.length ≤ 3) (hn : n ≤ 40) (hB : B ≤ w0.heap.size) (fuel : Nat) :
    ∀ (v : Nat) (w : World) (ov fv : Value) (S : Hps.Tw), S.t.count 0 ≤ fuel → v < n → Hps.TwOk cs S → WkSt w B b g (.slice A n c) n ov fv S → Below B w0 w →
    Calls Tryd.prog 156 #[.pointer (some ⟨b, 0, none⟩), .int .i64 v] w (VisitGave w0 B b g n c A cs S v) := by
  have hlc := hcs.1
  have HRF := Lib.hid hrf
  have HC3 := Lib.hid h3
  clear hrf h3
  induction fuel with
  | zero =>
    intro v w ov fv S hz hv ok W bb
    have hl := List.getElem?_eq_getElem (show v < S.t.length by have := W.len; omega)
    refine visit_seen w0 B b g n c A cs v w ov fv S _ hl (fun e => ?_) ok W bb
    rw [e] at hl
    have h1 := List.count_pos_iff.2 (List.mem_of_getElem? hl)
    omega
  | succ fuel ih =>
    intro v w ov fv S hz hv ok W bb
    obtain ⟨g', o', y, e1, _, hy, c1⟩ := W.t.reads.at_ hv
    injection e1 with e1
    injection e1 with e2 e3
    subst e2 e3
    rw [Nat.zero_add] at c1
    have x2 : w.cell? ⟨b, 2, none⟩ = some (.slice (some ⟨g, 0, none⟩) n n) := W.box.cell 2
    have hv' : (v : Int) < n := by omega
    have OK := Lib.hid ok
    by_cases h0 : y = 0
    · subst h0
      have IN := Lib.hid (Hps.TwIn.enter ok hy)
      have hmet : S.met < 40 := by
        have h1 := (IN.out.ok).cnt
        have h2 := ok.le
        simp only at h1
        omega
      have hcnt : (S.t.set v ((S.met : Int) + 1)).count 0 ≤ fuel := by
        have := Hps.count_set0 (y := (S.met : Int) + 1) hy (by omega)
        omega
      have x1 : w.cell? ⟨b, 1, none⟩ = some (.int .i64 S.met) := W.box.cell 1
      have f1 : w.frozen? ⟨b, 1, none⟩ = false := W.box.frozen 1
      have W1 := W.met (S.met + 1)
      have b1 := bb.setCell (p := ⟨b, 1, none⟩) W.lo (.int .i64 ((S.met + 1 : Nat) : Int))
      have hu : IntKind.i64.wrap ((S.met : Int) + 1) = (S.met : Int) + 1 := IntWalk.i64_in _ (by omega)
      rw [show ((S.met + 1 : Nat) : Int) = (S.met : Int) + 1 by omega] at b1 W1
      obtain ⟨w1, hw1⟩ : ∃ w1, w.setCell ⟨b, 1, none⟩ (.int .i64 ((S.met : Int) + 1)) = w1 := ⟨_, rfl⟩
      rw [hw1] at b1 W1
      have y1 : w1.cell? ⟨b, 1, none⟩ = some (.int .i64 ((S.met : Int) + 1)) := by have := W1.box.cell 1; rw [this]; simp
      have y2 : w1.cell? ⟨b, 2, none⟩ = some (.slice (some ⟨g, 0, none⟩) n n) := W1.box.cell 2
      have d1 : w1.cell? ⟨g, v, none⟩ = some (.int .i64 0) := by
        obtain ⟨g', o', y, e1, _, hy2, c1⟩ := W1.t.reads.at_ hv
        injection e1 with e1
        injection e1 with e2 e3
        subst e2 e3
        rw [Nat.zero_add] at c1
        rw [hy] at hy2
        rw [c1, ← Option.some.inj hy2]
      have fz : w1.frozen? ⟨g, v, none⟩ = false := W1.t.frozen W1.len v
      clear ok hy
      go_enter Tryd.func156, Tryd.ntmps156
      have hmlt := OK.out.le
      obtain ⟨gc, oc, cl, A', q, cc, e1, hgc, hcl, _, _, d3, hmc, hi⟩ := hcs.at_ hv
      subst e1
      have HCL := Lib.hid hcl
      have hq3 : q ≤ 3 := by have := HC3.out cl (List.mem_of_getElem? hcl); have := hi.1; omega
      have HOK := Lib.hid (HRF.out cl (List.mem_of_getElem? hcl))
      have hql := hi.1
      clear hcl
      have W2 := (W1.time v ((S.met : Int) + 1)).up (Below.refl _ _).drew
      have b2 := (b1.setCell (p := ⟨g, v, none⟩) (World.ownsRow.lt W1.t g rfl).1 (.int .i64 ((S.met : Int) + 1))).drew
      go_wp2_with fail
      go_region
      obtain ⟨w2, hw2⟩ : ∃ w2, (w1.setCell ⟨g, v, none⟩ (.int .i64 ((S.met : Int) + 1))).drew = w2 := ⟨_, rfl⟩
      rw [hw2] at W2 b2 ⊢
      clear hw2 W1 W y1 y2 d1 fz x1 x2 f1 c1 hu b1 hw1
      have z3 : w2.cell? ⟨b, 3, none⟩ = some ov := W2.box.cell 3
      have SA := W2.up ((Below.refl w2.heap.size w2).alloc (Nat.le_refl _) (.cells #[.int .i64 v] 3))
      have rr : IS (w2.alloc (.cells #[.int .i64 v] 3)) (w2.alloc (.cells #[.int .i64 v] 3)).heap.size (some ⟨w2.heap.size, 0, none⟩) 1 [(v : Int)] := (own_oneI w2 v 0 (Nat.zero_le _)).reads
      have sz2 := b2.size
      have hsz : B ≤ (w2.alloc (.cells #[.int .i64 v] 3)).heap.size := by simp; omega
      have bna := b2.alloc (by omega) (.cells #[.int .i64 v] 3)
      have hol : S.o.length + 1 ≤ 1099511627776 := by have := OK.out.few; omega
      go_wp2_with (at_builtin; refine wpList_appendI rfl (.tmp 44) (.tmp 46) rfl B _ S.o rfl SA.o (some ⟨w2.heap.size, 0, none⟩) 1 1 _ [(v : Int)] rfl rr hol hsz ?_; intro v5 w5 o5 g5 s5; obtain ⟨S5, f5, z5⟩ := SA.grow o5 g5 s5; have bn5 := (bna.grown g5 hsz (fun k hk => (World.ownsRow.lt SA.o k hk).1)).setCell (p := ⟨b, 3, none⟩) SA.lo v5; obtain ⟨A5, c5, e5, _⟩ := o5.form; generalize (S.o ++ [(v : Int)]).length = l5 at e5; clear o5 g5 s5; subst e5; have q0 : (w5.setCell ⟨b, 3, none⟩ (.slice A5 l5 c5)).cell? ⟨b, 0, none⟩ = some (.slice (some ⟨gc, oc, none⟩) n c) := S5.box.cell 0; have q2 : (w5.setCell ⟨b, 3, none⟩ (.slice A5 l5 c5)).cell? ⟨b, 2, none⟩ = some (.slice (some ⟨g, 0, none⟩) n n) := S5.box.cell 2; have q4 : (w5.setCell ⟨b, 3, none⟩ (.slice A5 l5 c5)).cell? ⟨g, v, none⟩ = some (.int .i64 ((S.met : Int) + 1)) := S5.t_at IN.out.tv; have q5 := (bn5.cell (p := ⟨gc, oc + v * 3 + 2, none⟩) hgc).trans d3)
      go_loopw [5, 66] (fun lv i wr => ∃ (k : Nat) (m : Int) (ov fv : Value) (S1 : Hps.Tw), k ≤ q ∧ i = .int .i64 k ∧ lv = .int .i64 m ∧ Hid (Hps.TwIn cs S v (cl.r.take k) m S1) ∧ WkSt wr B b g (.slice (some ⟨gc, oc, none⟩) n c) n ov fv S1 ∧ Below B w0 wr) (fun _ i _ => q - (intOf i).toNat)
      case atStart => exact ⟨0, (S.met : Int) + 1, _, _, _, Nat.zero_le _, rfl, rfl, IN, S5, bn5⟩
      case round =>
        clear S5 q0 q2 q4 q5 bn5 z3 z5 f5 IN SA rr sz2 hsz bna W2 b2
        obtain ⟨k, m, ov, fv, S1, hk, rfl, rfl, IN, W, bb⟩ := hrel
        by_cases hlt : k < q
        · obtain ⟨gr, or, x, e2, hgr, hx, d0⟩ := (hi.below bb).at_ hlt
          subst e2
          have hlt' : (k : Int) < q := by omega
          have HT := Lib.hid (take_snocI hx)
          have hox := Hps.okRefs_at HOK.out hx
          by_cases hm1 : x = -1
          · subst hm1
            have IN2 := Lib.hid IN.out.skip
            rw [← HT.out] at IN2
            clear hx hox
            go_wp2_with fail
            go_roundw
            case rel => exact ⟨k + 1, m, ov, fv, S1, by omega, by go_num, rfl, IN2, W, bb⟩
            case measure => simp [intOf]; omega
          · have hne : (x != -1) = true := by rw [bne_iff_ne]; exact hm1
            have hx0 : 0 ≤ x := by have := Hps.okRef_lo hox; omega
            obtain ⟨y, rfl, hy, _⟩ := Hps.okRef_nat hox hx0
            rw [hlc] at hy
            have HE := Lib.hid (show Hps.Edge cs v y from ⟨cl, HCL.out, List.mem_of_getElem? hx⟩)
            have hfl : S1.t.count 0 ≤ fuel := by
              have e1 := IN.out.ok.cnt
              have e2 := OK.out.cnt
              have e3 := IN.out.met
              omega
            have HC := Lib.hid (ih y wr ov fv S1 hfl hy IN.out.ok W bb)
            clear hx hox hm1
            go_wp2_with fail
            refine HC.out.mono ?_
            rintro e w3 ⟨m2, ov2, fv2, S2, rfl, P, W2, bb2⟩
            have IN2 := Lib.hid (IN.out.step P HE.out)
            rw [← HT.out] at IN2
            clear HC P W bb
            go_wp2_with fail
            go_roundw
            case rel => exact ⟨k + 1, _, ov2, fv2, S2, by omega, by go_num, rfl, by rw [show min m m2 = if m2 < m then m2 else m by split <;> omega] at IN2; exact IN2, W2, bb2⟩
            case measure => simp [intOf]; omega
        · obtain rfl : k = q := by omega
          rw [List.take_of_length_le (by omega)] at IN
          have q2 : wr.cell? ⟨b, 2, none⟩ = some (.slice (some ⟨g, 0, none⟩) n n) := W.box.cell 2
          have q4 := W.t_at IN.out.tv
          by_cases hm : m = (S.met : Int) + 1
          · subst hm
            obtain ⟨tl, ho, -⟩ := IN.out.opn
            have hnd := IN.out.ok.nd
            rw [ho, List.nodup_append] at hnd
            have hpre : (v : Int) ∉ S.o := fun hx => hnd.2.2 _ hx _ (by simp) rfl
            have hall : ∀ x ∈ (v : Int) :: tl, ∃ k : Nat, x = k ∧ k < n := fun x hx => by
              obtain ⟨j, y, h1, h2, _⟩ := IN.out.ok.opn x (by rw [ho, List.mem_append]; exact .inr hx)
              have := (List.getElem?_eq_some_iff.1 h2).1
              have := W.len
              exact ⟨j, h1, by omega⟩
            have hfw := IN.out.ok.few
            have hml := IN.out.ok.met_le
            have P := Lib.hid (IN.out.shut HCL.out ho)
            have HF := Lib.hid (findComponent_any B b g n _ ov fv S1 v S.o tl wr W ho hpre hall hn (by omega) (by omega) (by have := bb.size; omega))
            clear ho hnd hpre hall W IN HCL
            go_wp2_with fail
            refine HF.out.mono ?_
            rintro e w6 ⟨rfl, ov6, fv6, W6, b6⟩
            have bb6 := bb.trans b6
            go_wp2_with fail
            go_ret
            exact ⟨_, _, _, _, rfl, P.out, W6, bb6⟩
          · have hne : (m == (S.met : Int) + 1) = false := by rw [beq_eq_false_iff_ne]; exact hm
            have P := Lib.hid (IN.out.out HCL.out hm)
            clear IN hm
            go_wp2_with fail
            go_ret
            exact ⟨_, _, _, _, rfl, P.out, W, bb⟩
    · exact visit_seen w0 B b g n c A cs v w ov fv S y hy h0 ok W bb
end Go.Proofs.YthmddmddcdofaaaDoor

namespace Go.Proofs.YthmddmddcdofaaaDoor
open Go.RowKit
set_option maxRecDepth 100000
/-- the first k and the last k elements are turned round -/
def RevTo (xs ys : List Int) (k : Nat) : Prop := ys.length = xs.length ∧ ∀ i, i < xs.length → ys[i]? = if i < k ∨ xs.length ≤ i + k then xs[xs.length - 1 - i]? else xs[i]?
theorem RevTo.zero (xs : List Int) : RevTo xs xs 0 := ⟨rfl, fun i hi => by rw [if_neg (by omega)]⟩
theorem RevTo.fin {xs ys : List Int} {k : Nat} (h : RevTo xs ys k) (hk : xs.length ≤ 2 * k + 1) : ys = xs.reverse := by
  apply List.ext_getElem?
  intro i
  rcases Nat.lt_or_ge i xs.length with hi | hi
  · rw [h.2 i hi, List.getElem?_reverse hi]
    split
    · rfl
    · next hn => rw [show xs.length - 1 - i = i by omega]
  · rw [List.getElem?_eq_none (by rw [h.1]; exact hi), List.getElem?_eq_none (by simpa using hi)]
theorem RevTo.step {xs ys : List Int} {k : Nat} {x y : Int} (h : RevTo xs ys k) (hk : 2 * k + 1 < xs.length) (hx : ys[k]? = some x) (hy : ys[xs.length - 1 - k]? = some y) : RevTo xs ((ys.set k y).set (xs.length - 1 - k) x) (k + 1) := by
  refine ⟨by simp [h.1], fun i hi => ?_⟩
  have hl := h.1
  have h1 := h.2 k (by omega)
  have h2 := h.2 (xs.length - 1 - k) (by omega)
  rw [if_neg (by omega), hx] at h1
  rw [if_neg (by omega), hy] at h2
  rw [List.getElem?_set, List.getElem?_set, List.length_set]
  by_cases e : xs.length - 1 - k = i
  · rw [if_pos e, if_pos (by omega), if_pos (by omega), ← e, show xs.length - 1 - (xs.length - 1 - k) = k by omega, h1]
  · rw [if_neg e]
    by_cases e2 : k = i
    · rw [if_pos e2, if_pos (by omega), if_pos (by omega), ← e2, h2]
    · rw [if_neg e2, h.2 i hi]
      by_cases q : i < k ∨ xs.length ≤ i + k
      · rw [if_pos q, if_pos (by omega)]
      · rw [if_neg q, if_neg (by omega)]
set_option maxHeartbeats 4000000 in
set_option maxRecDepth 2000000 in
theorem reverse_any (B n c : Nat) (A : Option Addr) (xs : List Int) (w : World) (ho : OwnU w B (.slice A n c) xs) (hn : n ≤ 1099511627776) :
    Calls Tryd.prog 157 #[.slice A n c] w fun e w' => e = .returned (.tuple #[]) ∧ OwnU w' B (.slice A n c) xs.reverse ∧ Below B w w' ∧ World.grownBy w w' (Value.slice A n c).ownBlock := by
  have HL := Lib.hid ho.cap.1
  have HX := Lib.hid (RevTo.zero xs)
  have hG := World.grownBy.refl w (Value.slice A n c).ownBlock
  go_enter Tryd.func157, Tryd.ntmps157
  go_wp2_with fail
  go_loopw [2, 3] (fun i j wr => ∃ (k : Nat) (ys : List Int), i = .int .i64 k ∧ j = .int .i64 ((n : Int) - 1 - k) ∧ k ≤ n ∧ OwnU wr B (.slice A n c) ys ∧ Hid (RevTo xs ys k) ∧ Below B w wr ∧ World.grownBy w wr (Value.slice A n c).ownBlock) (fun i _ _ => n - (intOf i).toNat)
  case atStart => exact ⟨0, xs, rfl, by rw [Int.natCast_zero, Int.sub_zero], Nat.zero_le _, ho, HX, Below.refl _ _, hG⟩
  case round =>
    clear ho HX hG
    obtain ⟨k, ys, rfl, rfl, hkn, ho, HX, bb, hG⟩ := hrel
    have HYL := Lib.hid HX.out.1
    by_cases hlt : 2 * k + 1 < n
    · have hlt' : (k : Int) < (n : Int) - 1 - k := by omega
      obtain ⟨p, hp⟩ : ∃ p, n - 1 - k = p := ⟨_, rfl⟩
      have hpe : (n : Int) - 1 - k = p := by omega
      have hyn : ys.length = n := by rw [HYL.out, ← HL.out]
      obtain ⟨A', c', e', hA⟩ := ho.form
      injection e' with e1 e2 e3
      subst e1 e3
      obtain ⟨g, rfl, hBg, hgl⟩ := hA (by omega)
      obtain ⟨g', o', x, e1, _, hx, c1⟩ := ho.reads.at_ (k := k) (by omega)
      injection e1 with e1
      injection e1 with e2 e3
      subst e2 e3
      obtain ⟨g', o', y, e1, _, hy, c2⟩ := ho.reads.at_ (k := p) (by omega)
      injection e1 with e1
      injection e1 with e2 e3
      subst e2 e3
      rw [Nat.zero_add] at c1 c2
      have hxp : xs.length - 1 - k = p := by rw [← HL.out]; exact hp
      have HN := Lib.hid (HX.out.step (by rw [← HL.out]; exact hlt) hx (by rw [hxp]; exact hy))
      rw [hxp] at HN
      have f1 : wr.frozen? ⟨g, k, none⟩ = false := ho.frozen hyn k
      have o1 := ho.put' (j := k) hyn y
      have f2 : (wr.setCell ⟨g, k, none⟩ (.int .u64 y)).frozen? ⟨g, p, none⟩ = false := o1.frozen (by simpa using hyn) p
      have o2 := o1.put' (j := p) (by simpa using hyn) x
      have bn := (bb.setCell (p := ⟨g, k, none⟩) hBg (.int .u64 y)).setCell (p := ⟨g, p, none⟩) hBg (.int .u64 x)
      have c3 : ∃ u, (wr.setCell ⟨g, k, none⟩ (.int .u64 y)).cell? ⟨g, p, none⟩ = some u := by
        obtain ⟨g', o', u, e1, _, _, c⟩ := o1.reads.at_ (k := p) (by omega)
        injection e1 with e1
        injection e1 with e2 e3
        subst e2 e3
        rw [Nat.zero_add] at c
        exact ⟨_, c⟩
      obtain ⟨u, c3⟩ := c3
      have hkn' : (k : Int) < n := by omega
      have hpn' : (p : Int) < n := by omega
      have gn := only_put (only_put hG k (.int .u64 y)) p (.int .u64 x)
      rw [hpe]
      have hw1 : IntKind.i64.wrap ((k : Int) + 1) = (k : Int) + 1 := IntWalk.i64_in _ (by omega)
      have hw2 : IntKind.i64.wrap ((p : Int) - 1) = (p : Int) - 1 := IntWalk.i64_in _ (by omega)
      rw [hpe] at hlt'
      clear hx hy hxp ho o1 hA hG
      go_wp2_with fail
      have HPE := Lib.hid hpe
      have HLT := Lib.hid hlt
      have od := o2.below (Below.refl _ _).drew (Nat.le_refl _)
      have gd := grown_below gn (Below.refl w.heap.size _).drew
      have bd := bn.drew
      clear hlt' hlt hp hpe e2 hkn hyn o2 gn bn
      go_region
      go_wp2
      have hp2 := HPE.out
      have hl2 := HLT.out
      go_roundw
      case rel => exact ⟨k + 1, _, by go_num, by rw [show (n : Int) - 1 - ((k + 1 : Nat) : Int) = (p : Int) - 1 by omega], by omega, od, HN, bd, gd⟩
      case measure => simp [intOf]; omega
    · have hlt' : ¬ (k : Int) < (n : Int) - 1 - k := by omega
      have hE := HX.out.fin (by rw [← HL.out]; omega)
      subst hE
      go_wp2_with fail
      exact bodyPost_end (results_none rfl _ _ _) rfl ⟨rfl, ho, bb, hG⟩
/-- components of the call's own, each ahead of those to which it leads -/
def CompsGave (cs : List Cl) (v : Nat) (w : World) (e : Ending) (w' : World) : Prop := ∃ (fv : Value) (f : List Nat), e = .returned fv ∧ Hps.Comps cs v f ∧ OwnU w' w.heap.size fv (natsI f.reverse) ∧ Below w.heap.size w w'
set_option maxHeartbeats 1000000 in
theorem componentsFrom_any (A : Option Addr) (n c v : Nat) (cs : List Cl) (w : World) (hcs : CS w w.heap.size A n cs) (hrf : ∀ cl ∈ cs, Hps.okRefs cs cl.r = true) (h3 : ∀ cl ∈ cs, cl.r.length ≤ 3) (hn : n ≤ 40) (hv : v < n) :
    Calls Tryd.prog 132 #[.slice A n c, .int .i64 v] w (CompsGave cs v w) := by
  have hlc := hcs.1
  have HRF := Lib.hid hrf
  have HC3 := Lib.hid h3
  have hmk := makeI w n (by omega)
  have o1 := own_madeI w n (by omega)
  have b1 : Below w.heap.size w (w.alloc (.cells (Array.replicate n (.int .i64 0)) 3)) := (Below.refl _ _).alloc (Nat.le_refl _) _
  have hsz : (w.alloc (.cells (Array.replicate n (.int .i64 0)) 3)).heap.size = w.heap.size + 1 := by simp
  obtain ⟨w1, hw1⟩ : ∃ w1, w.alloc (.cells (Array.replicate n (.int .i64 0)) 3) = w1 := ⟨_, rfl⟩
  rw [hw1] at hmk o1 b1 hsz
  have hbx := Rw.new w1 173 #[.slice A n c, .int .i64 0, .slice (some ⟨w.heap.size, 0, none⟩) n n, .slice none 0 0, .slice none 0 0]
  have b2 := b1.alloc b1.size (.cells #[.slice A n c, .int .i64 0, .slice (some ⟨w.heap.size, 0, none⟩) n n, .slice none 0 0, .slice none 0 0] 173)
  have o2 := World.ownsRow.alloc o1 (.cells #[.slice A n c, .int .i64 0, .slice (some ⟨w.heap.size, 0, none⟩) n n, .slice none 0 0, .slice none 0 0] 173)
  obtain ⟨w2, hw2⟩ : ∃ w2, w1.alloc (.cells #[.slice A n c, .int .i64 0, .slice (some ⟨w.heap.size, 0, none⟩) n n, .slice none 0 0, .slice none 0 0] 173) = w2 := ⟨_, rfl⟩
  rw [hw2] at hbx b2 o2
  rw [hsz] at hbx
  have W : WkSt w2 w.heap.size (w.heap.size + 1) w.heap.size (.slice A n c) n (.slice none 0 0) (.slice none 0 0) (.zero n) :=
    ⟨o2, World.ownsRow_nil _ _ _ _, World.ownsRow_nil _ _ _ _, (fun e => by cases e), hbx, (by omega), (by simp [Hps.Tw.zero])⟩
  have HV := Lib.hid (visit_any w w.heap.size (w.heap.size + 1) w.heap.size n c A cs hcs hrf h3 hn (Nat.le_refl _) n v w2 _ _ (.zero n) (by simp [Hps.Tw.zero]) hv (by rw [← hlc]; exact .zero (by omega)) W b2)
  have HW2 := Lib.hid hw2
  clear hw1 hrf h3 W o1 o2 hbx hw2
  go_enter Tryd.func132, Tryd.ntmps132
  go_wp2_with fail
  rw [HW2.out]
  refine HV.out.mono ?_
  rintro e w3 ⟨m, ov, fv, S, rfl, P, W, b3⟩
  have hC := Hps.TwPost.comps (n := m) (S' := S) (cs := cs) (v := v) (by rw [hlc]; exact P)
  obtain ⟨A5, c5, rfl, hA5⟩ := W.f.form
  have hlen := natsI_len S.f
  have hfl := hC.len
  obtain ⟨l5, hl5⟩ : ∃ l5, (natsI S.f).length = l5 := ⟨_, rfl⟩
  rw [hl5] at W hA5 hlen
  have x4 : w3.cell? ⟨w.heap.size + 1, 4, none⟩ = some (.slice A5 l5 c5) := W.box.cell 4
  have HR := Lib.hid (reverse_any w.heap.size l5 c5 A5 (natsI S.f) w3 W.f (by omega))
  have hne := W.ne.2.2
  have HB := Lib.hid W.box
  have hCC := Lib.hid hC
  have HE := Lib.hid (show (natsI S.f).reverse = natsI S.f.reverse by simp [natsI])
  clear hA5 hlen hfl hl5 P W hC HV
  go_wp2_with fail
  refine HR.out.mono ?_
  rintro e w4 ⟨rfl, o4, b4, g4⟩
  have x5 : w4.cell? ⟨w.heap.size + 1, 4, none⟩ = some (.slice A5 l5 c5) := (HB.out.far g4 hne).cell 4
  rw [HE.out] at o4
  have bb := b3.trans b4
  clear HR
  go_wp2_with fail
  go_ret
  exact ⟨_, S.f, rfl, hCC.out, o4, bb⟩
end Go.Proofs.YthmddmddcdofaaaDoor

namespace Go.Proofs.YthmddmddcdofaaaDoor
open Go.RowKit
set_option maxRecDepth 100000
set_option maxHeartbeats 1000000 in
theorem hasCounted_any (V n c : Nat) (A : Option Addr) (L : List Int) (w : World) (hT : TzT w) (hV : V < 18446744073709551616) (hbit : ∀ i, V.testBit i = true → i < n) (_hn : n ≤ 40) (h : IS w w.heap.size A n (Hps.cntN n L)) :
    Calls Tryd.prog 133 #[.int .u64 V, .slice A n c] w fun e w' => e = .returned (.bool (Hps.hasL V L)) ∧ Below w.heap.size w w' := by
  have HNB := Lib.hid (fun (x : Int) (hx : x ∈ Hps.numsB V) => Hps.mem_numsB.1 hx)
  have hnl := Hps.nums_len V
  obtain ⟨N, hN⟩ : ∃ N, Hps.numsB V = N := ⟨_, rfl⟩
  have HN := Lib.hid hN
  rw [hN] at HNB hnl
  have HB := Lib.hid hbit
  have HNV := Lib.hid (numbers_any V w hT hV)
  rw [hN] at HNV
  have HR := Lib.hid (show Hps.hasL V L = N.any fun x => decide (x ∈ L) by rw [← hN]; rfl)
  clear hN hbit
  go_enter Tryd.func133, Tryd.ntmps133
  go_wp2_with fail
  refine HNV.out.mono ?_
  rintro e w1 ⟨v1, rfl, o1, b1⟩
  obtain ⟨A1, c1, e1, _⟩ := o1.form
  subst e1
  obtain ⟨q, hq⟩ : ∃ q, N.length = q := ⟨_, rfl⟩
  have HQ := Lib.hid hq
  rw [hq] at o1 hnl
  have hr := o1.reads
  have h1 := h.below b1
  rw [hq]
  clear HNV hq o1
  go_wp2_with fail
  go_loopw [10] (fun i wr => ∃ k : Nat, k ≤ q ∧ i = .int .i64 k ∧ Hid (∀ (j : Nat) (x : Int), j < k → N[j]? = some x → x ∉ L) ∧ wr = w1) (fun i _ => q - (intOf i).toNat)
  case atStart => exact ⟨0, Nat.zero_le _, rfl, Lib.hid (fun j x hj => by omega), rfl⟩
  case round =>
    obtain ⟨k, hk, rfl, HP, rfl⟩ := hrel
    by_cases hlt : k < q
    · obtain ⟨g, o, x, rfl, hg, hx, d1⟩ := hr.at_ hlt
      obtain ⟨y, hy, _, hb⟩ := HNB.out x (List.mem_of_getElem? hx)
      subst hy
      have hyn := HB.out y hb
      obtain ⟨g', o', z, rfl, hg', hz, d2⟩ := h1.at_ (k := y) hyn
      rw [Hps.cntN_at _ hyn] at hz
      have hz := Option.some.inj hz
      have hlt' : (k : Int) < q := by omega
      have hyn' : (y : Int) < n := by omega
      have HX := Lib.hid hx
      by_cases hc : (y : Int) ∈ L
      · have hpos : z > 0 := by have := List.count_pos_iff.2 hc; omega
        have HR2 := Lib.hid (show Hps.hasL V L = true by rw [HR.out, List.any_eq_true]; exact ⟨_, List.mem_of_getElem? HX.out, by simpa using hc⟩)
        clear hx hz hc hb
        go_wp2_with fail
        go_ret
        exact ⟨by rw [HR2.out]; rfl, b1⟩
      · have hpos : ¬ z > 0 := by have := List.count_eq_zero.2 hc; omega
        have HP2 : Hid (∀ (j : Nat) (x : Int), j < k + 1 → N[j]? = some x → x ∉ L) := Lib.hid fun j x hj hx2 => by
          rcases Nat.lt_or_ge j k with h2 | h2
          · exact HP.out j x h2 hx2
          · obtain rfl : j = k := by omega
            rw [HX.out] at hx2
            rw [← Option.some.inj hx2]
            exact hc
        clear hx hz hc hb
        go_wp2_with fail
        go_roundw
        case rel => exact ⟨k + 1, by omega, by go_num, HP2, trivial⟩
        case measure => simp [intOf]; omega
    · obtain rfl : k = q := by omega
      have HR2 := Lib.hid (show Hps.hasL V L = false by
        rw [HR.out, List.any_eq_false]
        intro x hx
        obtain ⟨j, hj⟩ := List.mem_iff_getElem?.1 hx
        simpa using HP.out j x (by have := (List.getElem?_eq_some_iff.1 hj).1; rw [HQ.out] at this; exact this) hj)
      go_wp2_with fail
      go_ret
      exact ⟨by rw [HR2.out]; rfl, b1⟩
set_option maxHeartbeats 4000000 in
theorem deadSet_any (A R : Option Addr) (n c m d v : Nat) (h : Hp) (w : World) (hT : TzT w) (hs : HS w w.heap.size A n R m h) (hv : Hps.validH h = true) (hu : Hps.usedAt h.cs v = true) :
    Calls Tryd.prog 95 #[heapV A n c R m d, .int .i64 v] w fun e w' => e = .returned (.int .u64 (Bm.wordN (Hps.deadL h v) true : Nat)) ∧ Below w.heap.size w w' := by
  have hlc := hs.cells.1
  have hlr := hs.roots.1
  obtain ⟨s1, s2, s3⟩ := Hps.valid_small hv
  have hvn : v < n := by have := Hps.usedAt_lt hu; omega
  have b0 : Below w.heap.size w (w.alloc (.cells #[.slice A n c, .slice R m d] 26)) := (Below.refl _ _).alloc (Nat.le_refl _) _
  have hbx := Rw.new w 26 #[.slice A n c, .slice R m d]
  have r1 := hs.up b0
  obtain ⟨V, hVV⟩ : ∃ V, Hps.reachW ⟨h.cs, [(v : Int)]⟩ = V := ⟨_, rfl⟩
  have hVl : V < 18446744073709551616 := by rw [← hVV]; exact Hps.reachW_lt (by simp only; omega)
  have HG := Lib.hid ((Hps.OkG.valid hv).one hu)
  have HV := Lib.hid hv
  have HW := Lib.hid hVV
  have HLT : Hid (∀ k, Hps.Rch h.cs [(v : Int)] k → k < h.cs.length) := Lib.hid fun k hk => Hps.usedAt_lt (Hps.from_used hv hu hk)
  have HRF := Lib.hid (Hps.valid_refs hv)
  have HS3 := Lib.hid s3
  have HOUT := Lib.hid (show Hps.outW h V n = Hps.outOf h (Hps.reachL h.cs [(v : Int)]) by
    rw [Hps.outOf, ← hlc, ← hVV]
    exact Hps.outW_eq (fun i => by unfold Hps.reachW; rw [Bm.wordN_bit]) _)
  have HOL := Lib.hid (show (Hps.outW h V n).length ≤ 400000000 by
    have h1 := Hps.outW_len h V n (by omega)
    have h2 := Hps.refsTo_len (h := h) (fun cl hcl => by have := s3 cl hcl; omega) (k := n) (by omega)
    omega)
  obtain ⟨w1, hw1⟩ : ∃ w1, w.alloc (.cells #[.slice A n c, .slice R m d] 26) = w1 := ⟨_, rfl⟩
  rw [hw1] at b0 hbx r1
  have z0 : w1.cell? ⟨w.heap.size, 0, none⟩ = some (.slice A n c) := hbx.cell 0
  have z1 : w1.cell? ⟨w.heap.size, 1, none⟩ = some (.slice R m d) := hbx.cell 1
  have hwl := hbx.lt
  have hvn' : (v : Int) < n := by omega
  clear hv s3 hVV hu hs
  go_enter Tryd.func95, Tryd.ntmps95
  go_wp2_with fail
  refine wp_region_inv (by kernel_rfl) (by kernel_rfl) (fun L ac ww => ∃ t5 t11 t12 t13 t14 t15 t16 t17 : Value, ac = { tmps := #[heapV A n c R m d, .int .i64 v, .pointer (some ⟨w.heap.size, 0, none⟩), undef, .int .u64 0, t5, undef, undef, undef, undef, undef, t11, t12, t13, t14, t15, t16, t17, undef, undef, undef, undef, undef, undef, undef, undef, undef, undef, undef, undef, undef, undef, undef, undef, undef, undef, undef, undef, undef, undef, undef, undef, undef, undef, undef, undef, undef, undef, undef, undef, undef, undef], defers := [] } ∧ (Below w1.heap.size w1 ww) ∧ (L 0 = true → t11 = heapV A n c R m d) ∧ (L 1 = true → t12 = (.pointer (some ⟨w.heap.size, 0, none⟩))) ∧ (L 2 = true → t13 = .slice A n c) ∧ (L 3 = true → t14 = .int .i64 (v : Nat)) ∧ (L 4 = true → OwnI ww w1.heap.size t15 [(v : Int)]) ∧ (L 5 = true → t16 = .int .u64 (V : Nat)) ∧ (L 6 = true → OwnI ww w1.heap.size t17 (Hps.cntN n (Hps.outW h V n))) ∧ (L 7 = true → OwnI ww w1.heap.size t5 (Hps.cntN n (Hps.outW h V n)))) ?h0 ?hstep ?hdone
  case h0 => exact ⟨_, _, _, _, _, _, _, _, rfl, (Below.refl _ _).drew, (fun h => absurd h Bool.false_ne_true), (fun h => absurd h Bool.false_ne_true), (fun h => absurd h Bool.false_ne_true), (fun h => absurd h Bool.false_ne_true), (fun h => absurd h Bool.false_ne_true), (fun h => absurd h Bool.false_ne_true), (fun h => absurd h Bool.false_ne_true), (fun h => absurd h Bool.false_ne_true)⟩
  case hstep =>
    rintro L ac ww i o ho hL hd ⟨t5, t11, t12, t13, t14, t15, t16, t17, rfl, I0, f0, f1, f2, f3, f4, f5, f6, f7⟩
    have hi : i < 8 := (Array.getElem?_eq_some_iff.1 ho).1
    obtain rfl | rfl | rfl | rfl | rfl | rfl | rfl | rfl : i = 0 ∨ i = 1 ∨ i = 2 ∨ i = 3 ∨ i = 4 ∨ i = 5 ∨ i = 6 ∨ i = 7 := by omega
    · obtain rfl := Option.some.inj ho
      have y0 : ww.cell? ⟨w.heap.size, 0, none⟩ = some (.slice A n c) := (I0.cell (p := ⟨w.heap.size, 0, none⟩) hwl).trans z0
      have y1 : ww.cell? ⟨w.heap.size, 1, none⟩ = some (.slice R m d) := (I0.cell (p := ⟨w.heap.size, 1, none⟩) hwl).trans z1
      refine wpOp_step rfl (fun K' hK => ?_)
      go_simp
      refine hK _ _ ?_
      exact ⟨_, _, _, _, _, _, _, _, rfl, (I0), (fun _ => rfl), (kp f1), (kp f2), (kp f3), (kp f4), (kp f5), (kp f6), (kp f7)⟩
    · obtain rfl := Option.some.inj ho
      refine wpOp_step rfl (fun K' hK => ?_)
      go_simp
      refine hK _ _ ?_
      exact ⟨_, _, _, _, _, _, _, _, rfl, (I0), (kp f0), (fun _ => rfl), (kp f2), (kp f3), (kp f4), (kp f5), (kp f6), (kp f7)⟩
    · obtain rfl := Option.some.inj ho
      have g1 := f1 (hd ⟨1, .data⟩ (by simp) rfl)
      subst g1
      have y0 : ww.cell? ⟨w.heap.size, 0, none⟩ = some (.slice A n c) := (I0.cell (p := ⟨w.heap.size, 0, none⟩) hwl).trans z0
      have y1 : ww.cell? ⟨w.heap.size, 1, none⟩ = some (.slice R m d) := (I0.cell (p := ⟨w.heap.size, 1, none⟩) hwl).trans z1
      refine wpOp_step rfl (fun K' hK => ?_)
      go_simp
      refine hK _ _ ?_
      exact ⟨_, _, _, _, _, _, _, _, rfl, (I0), (kp f0), (kp f1), (fun _ => rfl), (kp f3), (kp f4), (kp f5), (kp f6), (kp f7)⟩
    · obtain rfl := Option.some.inj ho
      refine wpOp_step rfl (fun K' hK => ?_)
      go_simp
      refine hK _ _ ?_
      exact ⟨_, _, _, _, _, _, _, _, rfl, (I0), (kp f0), (kp f1), (kp f2), (fun _ => rfl), (kp f4), (kp f5), (kp f6), (kp f7)⟩
    · obtain rfl := Option.some.inj ho
      have g3 := f3 (hd ⟨3, .data⟩ (by simp) rfl)
      subst g3
      refine wpOp_step rfl (fun K' hK => ?_)
      go_simp
      refine hK _ _ ?_
      have o5 := own_oneI ww (v : Int) w1.heap.size I0.size
      exact ⟨_, _, _, _, _, _, _, _, rfl, (I0.alloc I0.size _), (kp f0), (kp f1), (kp f2), (kp f3), (fun _ => o5), (kp f5), (fun h => World.ownsRow.alloc (f6 (upd_ne h (by decide))) _), (fun h => World.ownsRow.alloc (f7 (upd_ne h (by decide))) _)⟩
    · obtain rfl := Option.some.inj ho
      have g2 := f2 (hd ⟨2, .data⟩ (by simp) rfl)
      have g4 := f4 (hd ⟨4, .data⟩ (by simp) rfl)
      subst g2
      obtain ⟨A5, c5, e5, _⟩ := g4.form
      subst e5
      refine wpOp_step rfl (fun K' hK => ?_)
      go_simp
      refine (ledTo_any A A5 n c 1 c5 ⟨h.cs, [(v : Int)]⟩ ww (r1.up I0).cells g4.reads HG.out).mono ?_
      rw [HW.out]
      rintro e w' ⟨rfl, b5⟩
      refine hK _ _ ?_
      exact ⟨_, _, _, _, _, _, _, _, rfl, (I0.trans (b5.mono I0.size)), (kp f0), (kp f1), (kp f2), (kp f3), (fun h => (f4 (upd_ne h (by decide))).below b5 (Nat.le_refl _)), (fun _ => rfl), (fun h => (f6 (upd_ne h (by decide))).below b5 (Nat.le_refl _)), (fun h => (f7 (upd_ne h (by decide))).below b5 (Nat.le_refl _))⟩
    · obtain rfl := Option.some.inj ho
      have g0 := f0 (hd ⟨0, .data⟩ (by simp) rfl)
      have g5 := f5 (hd ⟨5, .data⟩ (by simp) rfl)
      subst g0
      subst g5
      refine wpOp_step rfl (fun K' hK => ?_)
      go_simp
      refine (countsWithout_any A R n c m d V h ww (r1.up I0) HV.out hVl).mono ?_
      rintro e w' ⟨v5, rfl, o5, b5⟩
      refine hK _ _ ?_
      exact ⟨_, _, _, _, _, _, _, _, rfl, (I0.trans (b5.mono I0.size)), (kp f0), (kp f1), (kp f2), (kp f3), (fun h => (f4 (upd_ne h (by decide))).below b5 (Nat.le_refl _)), (kp f5), (fun _ => o5.base I0.size), (fun h => (f7 (upd_ne h (by decide))).below b5 (Nat.le_refl _))⟩
    · obtain rfl := Option.some.inj ho
      have g6 := f6 (hd ⟨6, .data⟩ (by simp) rfl)
      refine wpOp_step rfl (fun K' hK => ?_)
      go_simp
      refine hK _ _ ?_
      exact ⟨_, _, _, _, _, _, _, _, rfl, (I0), (kp f0), (kp f1), (kp f2), (kp f3), (kp f4), (kp f5), (kp f6), (fun _ => g6)⟩
  case hdone =>
    rintro L ac ww hall ⟨t5, t11, t12, t13, t14, t15, t16, t17, rfl, I0, f0, f1, f2, f3, f4, f5, f6, f7⟩
    have e0 := f0 (hall 0 (by decide))
    have e1 := f1 (hall 1 (by decide))
    have e2 := f2 (hall 2 (by decide))
    have e3 := f3 (hall 3 (by decide))
    have e4 := f4 (hall 4 (by decide))
    have e5 := f5 (hall 5 (by decide))
    have e6 := f6 (hall 6 (by decide))
    have e7 := f7 (hall 7 (by decide))
    clear f0 f1 f2 f3 f4 f5 f6 f7
    obtain ⟨A5, c5, e5, hA5⟩ := e7.form
    rw [Hps.cntN_len] at e5 hA5
    obtain ⟨g5, rfl, hg5, _⟩ := hA5 (by omega)
    subst e0 e1 e2 e3 e5
    have y0 := (I0.cell (p := ⟨w.heap.size, 0, none⟩) hwl).trans z0
    have HC := Lib.hid (componentsFrom_any A n c v h.cs ww (r1.up I0).cells HRF.out HS3.out (by omega) hvn)
    clear e4 e5 e6 hA5
    go_wp2_with fail
    refine HC.out.mono ?_
    rintro e w3 ⟨fv, f, rfl, C, oF, b3⟩
    have bb3 := I0.trans (b3.mono I0.size)
    have o3 := e7.below b3 (Nat.le_refl _)
    have oF3 := OwnU.base oF I0.size
    have HCC := Lib.hid C
    have hfl := C.len
    obtain ⟨q, hq⟩ : ∃ q, f.reverse.length = q := ⟨_, rfl⟩
    have hnl := natsI_len f.reverse
    rw [hq] at hnl
    have hq40 : q ≤ 40 := by rw [← hq, List.length_reverse]; exact hfl
    obtain ⟨A6, c6, e6, _⟩ := oF3.form
    rw [hnl] at e6
    subst e6
    have HQ := Lib.hid hq
    have HD := Lib.hid (Hps.DeadSt.start HLT.out)
    rw [← HOUT.out] at HD
    obtain ⟨B, hB⟩ : ∃ B, w1.heap.size = B := ⟨_, rfl⟩
    have C1 := r1.cells
    have hwB : w.heap.size ≤ B := by omega
    rw [hB] at bb3 o3 oF3 hg5 hwl C1
    clear e7 oF hq HC C y0 I0 b3
    go_wp2_with fail
    go_loopw [6, 23] (fun D i wr => ∃ (k DD : Nat) (L : List Int), k ≤ q ∧ i = .int .i64 k ∧ D = .int .u64 DD ∧ Hid (DD < 18446744073709551616) ∧ Hid (Hps.DeadSt h v (f.reverse.take k) L DD) ∧ Hid (L.length ≤ 400000000 + 1000 * k) ∧ OwnI wr B (.slice (some ⟨g5, 0, none⟩) n c5) (Hps.cntN n L) ∧ OwnU wr B (.slice A6 q c6) (natsI f.reverse) ∧ Below B w1 wr) (fun _ i _ => q - (intOf i).toNat)
    case atStart => exact ⟨0, 0, _, Nat.zero_le _, rfl, rfl, Lib.hid (by omega), HD, HOL, o3, oF3, bb3⟩
    case round =>
      clear HD o3 oF3 bb3
      obtain ⟨k, DD, L, hk, rfl, rfl, HDD, HD, HL, o3, oF3, bb⟩ := hrel
      by_cases hlt : k < q
      · have hgl5 := (World.ownsRow.lt o3 g5 rfl).2
        obtain ⟨g, o, x, rfl, hg, hx, d1⟩ := oF3.reads.at_ hlt
        have hkf : k < f.reverse.length := by rw [HQ.out]; exact hlt
        obtain ⟨W0, hW0⟩ : ∃ W0, f.reverse[k] = W0 := ⟨_, rfl⟩
        have hxW : x = (W0 : Int) := by
          rw [natsI, List.getElem?_map, List.getElem?_eq_getElem hkf, hW0] at hx
          exact (Option.some.inj hx).symm
        subst hxW
        have HSP := Lib.hid (show f.reverse = f.reverse.take k ++ W0 :: f.reverse.drop (k + 1) by
          rw [← hW0, List.getElem_cons_drop, List.take_append_drop])
        have HTK := Lib.hid (show f.reverse.take (k + 1) = f.reverse.take k ++ [W0] by rw [List.take_add_one, List.getElem?_eq_getElem hkf, hW0]; rfl)
        have hWf : W0 ∈ f := by rw [← List.mem_reverse, ← hW0]; exact List.getElem_mem hkf
        have hbit : ∀ i, W0.testBit i = true → i < n := fun i hi => by have := HLT.out i ((HCC.out.all i).1 ⟨W0, hWf, hi⟩); omega
        have hW64 : W0 < 18446744073709551616 := Nat.lt_trans (HCC.out.lt HLT.out (by omega) hWf) (by decide)
        have HBIT := Lib.hid hbit
        have hTr := hT.below (b0.trans (bb.mono hwB))
        have HH := Lib.hid (hasCounted_any W0 n c5 _ L wr hTr hW64 hbit (by omega) o3.reads)
        have hlt' : (k : Int) < q := by omega
        cases hh : Hps.hasL W0 L
        · have HN := Lib.hid (HD.out.dead HCC.out HSP.out (fun q => by rw [(Hps.hasL_iff (fun i hi => by have := HBIT.out i hi; omega)).2 q] at hh; cases hh))
          rw [← HTK.out] at HN
          have hor := u64_or_nat DD W0 HDD.out hW64
          have HO : Hid (DD ||| W0 < 18446744073709551616) := Lib.hid (Nat.or_lt_two_pow (n := 64) HDD.out hW64)
          have HHF := Lib.hid hh
          clear hx hkf hW0 hWf hbit hh
          go_wp2_with fail
          refine HH.out.mono ?_
          rw [HHF.out]
          rintro e w4 ⟨rfl, b4⟩
          have o4 := o3.below b4 (Nat.le_refl _)
          have oF4 := oF3.below b4 (Nat.le_refl _)
          have bb4 := bb.trans (b4.mono (by have := bb.size; omega))
          clear HH
          go_wp2_with fail
          go_roundw
          case rel => exact ⟨k + 1, DD ||| W0, L, by omega, by go_num, rfl, HO, HN, Lib.hid (by have := HL.out; omega), o4, oF4, bb4⟩
          case measure => simp [intOf]; omega
        · have HN := Lib.hid (HD.out.alive HCC.out HSP.out (fun i hi => by have := HBIT.out i hi; omega) ((Hps.hasL_iff (fun i hi => by have := HBIT.out i hi; omega)).1 hh))
          rw [← HTK.out] at HN
          have HNB := Lib.hid (fun (x : Int) (hx : x ∈ Hps.numsB W0) => Hps.mem_numsB.1 hx)
          have hnl := Hps.nums_len W0
          have HRL := Lib.hid (Hps.refsB_len HS3.out (Hps.numsB W0))
          obtain ⟨N, hN⟩ : ∃ N, Hps.numsB W0 = N := ⟨_, rfl⟩
          have HNE := Lib.hid hN
          rw [hN] at HN HNB hnl HRL
          have HRT : Hid (∀ j, (Hps.refsB h.cs (N.take j)).length ≤ 3 * 64) := Lib.hid fun j => by
            have h1 := Hps.refsB_len HS3.out (N.take j)
            have h2 : (N.take j).length ≤ N.length := by rw [List.length_take]; omega
            omega
          have HHF := Lib.hid hh
          clear hx hkf hW0 hWf hbit hh hN
          go_wp2_with fail
          refine HH.out.mono ?_
          rw [HHF.out]
          rintro e w4 ⟨rfl, b4⟩
          have o4 := o3.below b4 (Nat.le_refl _)
          have oF4 := oF3.below b4 (Nat.le_refl _)
          have bb4 := bb.trans (b4.mono (by have := bb.size; omega))
          have HNV := Lib.hid (numbers_any W0 w4 (hT.below (b0.trans (bb4.mono hwB))) hW64)
          rw [HNE.out] at HNV
          have hgl4 := b4.size
          clear HH
          go_wp2_with fail
          refine HNV.out.mono ?_
          rintro e w5 ⟨nv, rfl, on, b5⟩
          obtain ⟨A7, c7, e7, _⟩ := on.form
          subst e7
          obtain ⟨p, hp⟩ : ∃ p, N.length = p := ⟨_, rfl⟩
          have HP := Lib.hid hp
          rw [hp] at on hnl
          rw [hp]
          have hne7 : (Value.slice A7 p c7).ownBlock ≠ some g5 := fun e => by have := (World.ownsRow.lt on g5 e).1; omega
          have o5 := o4.below b5 (Nat.le_refl _)
          have oF5 := oF4.below b5 (Nat.le_refl _)
          have bb5 := bb4.trans (b5.mono (by have := bb4.size; omega))
          have on5 := on.base (show B ≤ w4.heap.size by have := bb4.size; omega)
          clear HNV hp on b4 b5 bb4 o4 oF4 o3 oF3
          go_wp2_with fail
          go_loopw [37] (fun i wr => ∃ j : Nat, j ≤ p ∧ i = .int .i64 j ∧ OwnI wr B (.slice (some ⟨g5, 0, none⟩) n c5) (Hps.cntN n (L ++ Hps.refsB h.cs (N.take j))) ∧ OwnI wr B (.slice A7 p c7) N ∧ OwnU wr B (.slice (some ⟨g, o, none⟩) q c6) (natsI f.reverse) ∧ Below B w1 wr) (fun i _ => p - (intOf i).toNat)
          case atStart => exact ⟨0, Nat.zero_le _, rfl, by rw [List.take_zero]; simpa [Hps.refsB] using o5, on5, oF5, bb5⟩
          case round =>
            clear o5 on5 oF5 bb5 bb
            obtain ⟨j, hj, rfl, o5, on5, oF5, bb⟩ := hrel
            by_cases hlj : j < p
            · obtain ⟨g7, o7, x, rfl, hg7, hx7, d7⟩ := on5.reads.at_ hlj
              obtain ⟨y, rfl, _, hyb⟩ := HNB.out x (List.mem_of_getElem? hx7)
              have hyn := HBIT.out y hyb
              obtain ⟨gc, oc, cl, A', m', cc, e1, hgc, hcl, _, _, e3, hmc, hi⟩ := C1.at_ hyn
              subst e1
              have e3' := (bb.cell (p := ⟨gc, oc + y * 3 + 2, none⟩) hgc).trans e3
              have x0 := (bb.cell (p := ⟨w.heap.size, 0, none⟩) hwl).trans z0
              have HSN := Lib.hid (show L ++ Hps.refsB h.cs (N.take (j + 1)) = L ++ Hps.refsB h.cs (N.take j) ++ cl.r by rw [take_snocI hx7, Hps.refsB_snoc hcl, List.append_assoc])
              have hm3 : m' ≤ 3 := by have := HS3.out cl (List.mem_of_getElem? hcl); have := hi.1; omega
              have hlen : (L ++ Hps.refsB h.cs (N.take j)).length ≤ 1000000000 := by
                have h1 := HL.out
                have h2 := HRT.out j
                rw [List.length_append]
                omega
              have HT := Lib.hid (countTargetsC_any g5 n c5 m' cc A' h.cs (L ++ Hps.refsB h.cs (N.take j)) cl.r wr B hlc o5 (hi.below bb) (HRF.out cl (List.mem_of_getElem? hcl)) (by omega) (by omega) hlen hg5 (by have := bb.size; omega))
              have hlj' : (j : Int) < p := by omega
              have hyn' : (y : Int) < n := by omega
              have HF7 := Lib.hid (rows_type oF5 o5 (by decide))
              clear hcl hlen hyb hx7 o5 e3
              go_wp2_with fail
              refine HT.out.mono ?_
              rintro e w8 ⟨rfl, o8, b8, g8⟩
              rw [← HSN.out] at o8
              have on8 := on5.far g8 (.inr hne7)
              have oF8 := oF5.far g8 HF7.out
              have bb8 := bb.trans b8
              clear HT
              go_wp2_with fail
              go_roundw
              case rel => exact ⟨j + 1, by omega, by go_num, o8, on8, oF8, bb8⟩
              case measure => simp [intOf]; omega
            · obtain rfl : j = p := by omega
              rw [List.take_of_length_le (by rw [HP.out]; omega)] at o5
              go_wp2_with fail
              go_roundw
              case rel => exact ⟨k + 1, DD, _, by omega, by go_num, rfl, HDD, HN, Lib.hid (by have := HL.out; have := HRL.out; rw [HP.out] at this; rw [List.length_append]; omega), o5, oF5, bb⟩
              case measure => simp [intOf]; omega
      · obtain rfl : k = q := by omega
        rw [List.take_of_length_le (by rw [HQ.out]; omega)] at HD
        have HE := Lib.hid (HD.out.fin HCC.out HLT.out)
        go_wp2_with fail
        go_ret
        exact ⟨by rw [← HE.out]; rfl, b0.trans (bb.mono hwB)⟩
end Go.Proofs.YthmddmddcdofaaaDoor

namespace Go.Proofs.YthmddmddcdofaaaDoor
open Go.RowKit
set_option maxRecDepth 100000
theorem equalI_any (A B : Option Addr) (n m c d : Nat) (xs ys : List Int) (w : World) (h : IS w w.heap.size A n xs) (h' : IS w w.heap.size B m ys) (hn : n ≤ 1099511627776) (hm : m ≤ 1099511627776) :
    Calls Tryd.prog 65 #[.slice A n c, .slice B m d] w fun e w' => e = .returned (.bool (decide (xs = ys))) ∧ Below w.heap.size w w' := by
  have HL := Lib.hid h.1
  have HL' := Lib.hid h'.1
  by_cases hnm : n = m
  · subst hnm
    go_enter Tryd.func65, Tryd.ntmps65
    go_wp2
    go_loopw [13] (fun i wr => ∃ (k : Nat), k ≤ n ∧ i = .int .i64 k ∧ Hid (xs.take k = ys.take k) ∧ Below w.heap.size w wr) (fun i _ => n - (intOf i).toNat)
    case atStart => exact ⟨0, Nat.zero_le _, rfl, by simp [Hid], Below.refl _ _⟩
    case round =>
      obtain ⟨k, hk, rfl, hpre, hb⟩ := hrel
      by_cases hlt : k < n
      · obtain ⟨g, o, x, rfl, hg, hx, c1⟩ := (h.below hb).at_ hlt
        obtain ⟨g', o', y, rfl, hg', hx', c1'⟩ := (h'.below hb).at_ hlt
        have HX := Lib.hid hx
        have HX' := Lib.hid hx'
        have hlt' : (k : Int) < n := by omega
        clear hx hx'
        by_cases hxy : x = y
        · subst hxy
          go_wp2_with fail
          go_quiet (fail)
          go_wp2
          go_roundw
          case rel => exact ⟨k + 1, by omega, by go_num, Lib.hid (take_eq_succI hpre.out HX.out HX'.out), below_drewN hb _⟩
          case measure => simp [intOf]; omega
        · have hne : (x == y) = false := by rw [beq_eq_false_iff_ne]; exact hxy
          have hne2 : (x != y) = true := by rw [bne_iff_ne]; exact hxy
          have HNE := Lib.hid (show xs ≠ ys from fun e => hxy (by
            have a := HX.out
            have b := HX'.out
            rw [e, b] at a
            exact (Option.some.inj a).symm))
          clear hxy
          go_wp2_with fail
          go_quiet (fail)
          go_wp2
          go_ret
          exact ⟨ret_bool (decide_eq_false HNE.out).symm, below_drewN hb _⟩
      · have hkn : k = n := by omega
        have HK := Lib.hid hkn
        clear hkn
        go_wp2
        go_ret
        refine ⟨ret_bool ?_, hb⟩
        have hp := hpre.out
        rw [HK.out, List.take_of_length_le (by rw [HL.out]; omega), List.take_of_length_le (by rw [HL'.out]; omega)] at hp
        simp [hp]
  · have hne : ((n : Int) != m) = true := by rw [bne_iff_ne]; omega
    have HN := Lib.hid hnm
    clear hnm
    go_enter Tryd.func65, Tryd.ntmps65
    go_wp2
    go_ret
    refine ⟨ret_bool ?_, Below.refl _ _⟩
    simp
    rintro rfl
    exact HN.out (HL.out.symm.trans HL'.out)
end Go.Proofs.YthmddmddcdofaaaDoor

namespace Go.Proofs.YthmddmddcdofaaaDoor
open Go.RowKit
set_option maxRecDepth 100000
set_option maxHeartbeats 4000000 in
theorem countedValid_any (A R K : Option Addr) (n c m d p q : Nat) (h : Hp) (l : List Int) (w : World) (hs : HS w w.heap.size A n R m h) (hk : IS w w.heap.size K p l) (hn : n ≤ 1099511627776) (hm : m ≤ 1099511627776) (hp : p ≤ 1099511627776) (hnc : n ≤ c) (hmd : m ≤ d) :
    Calls Tryd.prog 94 #[ctV A n c R m d K p q] w fun e w' => e = .returned (.bool (Hps.okCt h l)) ∧ Below w.heap.size w w' := by
  have b0 : Below w.heap.size w (w.alloc (.cells #[.slice A n c, .slice R m d, .slice K p q] 55)) := (Below.refl _ _).alloc (Nat.le_refl _) _
  have r0 := hs.up b0
  have k0 := hk.up b0
  have Q0 := Rw.new w 55 #[.slice A n c, .slice R m d, .slice K p q]
  obtain ⟨v, hv⟩ : ∃ v, Hps.validH h = v := ⟨_, rfl⟩
  have HOK := Lib.hid (show Hps.okCt h l = (v && decide (l = Hps.countsH h)) by
    rw [Hps.okCt_eq, hv]
    congr 1
    exact decide_eq_decide.2 ⟨fun e => e.symm, fun e => e.symm⟩)
  have HV := Lib.hid hv
  have HL := Hps.countsH_len h
  rw [hs.cells.1] at HL
  clear hv
  go_enter Tryd.func94, Tryd.ntmps94
  go_upto_region 1 with fail
  generalize w.alloc (.cells #[.slice A n c, .slice R m d, .slice K p q] 55) = w2 at b0 r0 k0 Q0 ⊢
  generalize hbq : w.heap.size = b at Q0 ⊢
  have HB := Lib.hid hbq
  clear hbq
  have hbl := Q0.lt
  have x0 : w2.cell? ⟨b, 0, none⟩ = some (.slice A n c) := Q0.cell 0
  have x1 : w2.cell? ⟨b, 1, none⟩ = some (.slice R m d) := Q0.cell 1
  have x2 : w2.cell? ⟨b, 2, none⟩ = some (.slice K p q) := Q0.cell 2
  cases v
  · skip
    refine wp_region_inv (by kernel_rfl) (by kernel_rfl) (fun L ac ww => ∃ t2 t3 t4 t5 t6 t7 t8 t9 t10 t11 t12 t13 : Value, ac = { tmps := #[ctV A n c R m d K p q, Value.pointer (some { block := b, off := 0 }), t2, t3, t4, t5, t6, t7, t8, t9, t10, t11, t12, t13], defers := [] } ∧ (Below w2.heap.size w2 ww) ∧ (L 0 = true → t3 = .pointer (some ⟨b, 0, none⟩)) ∧ (L 1 = true → t4 = .agg #[.slice A n c, .slice R m d]) ∧ (L 2 = true → t5 = .bool false) ∧ (L 3 = true → t6 = .bool false) ∧ (L 4 = true → True) ∧ (L 5 = true → True) ∧ (L 6 = true → True) ∧ (L 7 = true → True) ∧ (L 8 = true → True) ∧ (L 9 = true → True) ∧ (L 10 = true → t13 = .bool false) ∧ (L 11 = true → t2 = .bool false)) ?h0 ?hstep ?hdone
    case h0 => exact ⟨_, _, _, _, _, _, _, _, _, _, _, _, rfl, (Below.refl _ _).drew, (fun h => absurd h Bool.false_ne_true), (fun h => absurd h Bool.false_ne_true), (fun h => absurd h Bool.false_ne_true), (fun h => absurd h Bool.false_ne_true), (fun h => absurd h Bool.false_ne_true), (fun h => absurd h Bool.false_ne_true), (fun h => absurd h Bool.false_ne_true), (fun h => absurd h Bool.false_ne_true), (fun h => absurd h Bool.false_ne_true), (fun h => absurd h Bool.false_ne_true), (fun h => absurd h Bool.false_ne_true), (fun h => absurd h Bool.false_ne_true)⟩
    case hstep =>
      rintro L ac ww i o ho hL hd ⟨t2, t3, t4, t5, t6, t7, t8, t9, t10, t11, t12, t13, rfl, I0, f0, f1, f2, f3, f4, f5, f6, f7, f8, f9, f10, f11⟩
      have hi : i < 12 := (Array.getElem?_eq_some_iff.1 ho).1
      obtain rfl | rfl | rfl | rfl | rfl | rfl | rfl | rfl | rfl | rfl | rfl | rfl : i = 0 ∨ i = 1 ∨ i = 2 ∨ i = 3 ∨ i = 4 ∨ i = 5 ∨ i = 6 ∨ i = 7 ∨ i = 8 ∨ i = 9 ∨ i = 10 ∨ i = 11 := by omega
      · obtain rfl := Option.some.inj ho
        refine wpOp_step rfl (fun K' hK => ?_)
        go_simp
        refine hK _ _ ?_
        exact ⟨_, _, _, _, _, _, _, _, _, _, _, _, rfl, (I0), (fun _ => rfl), (kp f1), (kp f2), (kp f3), (fun _ => trivial), (fun _ => trivial), (fun _ => trivial), (fun _ => trivial), (fun _ => trivial), (fun _ => trivial), (kp f10), (kp f11)⟩
      · obtain rfl := Option.some.inj ho
        have g0 := f0 (hd ⟨0, .data⟩ (by simp) rfl)
        subst g0
        have z0 : ww.cell? ⟨b, 0, none⟩ = some (.slice A n c) := (I0.cell (p := ⟨b, 0, none⟩) hbl).trans x0
        have z1 : ww.cell? ⟨b, 1, none⟩ = some (.slice R m d) := (I0.cell (p := ⟨b, 1, none⟩) hbl).trans x1
        have z2 : ww.cell? ⟨b, 2, none⟩ = some (.slice K p q) := (I0.cell (p := ⟨b, 2, none⟩) hbl).trans x2
        refine wpOp_step rfl (fun K' hK => ?_)
        go_simp
        refine hK _ _ ?_
        exact ⟨_, _, _, _, _, _, _, _, _, _, _, _, rfl, (I0), (kp f0), (fun _ => rfl), (kp f2), (kp f3), (fun _ => trivial), (fun _ => trivial), (fun _ => trivial), (fun _ => trivial), (fun _ => trivial), (fun _ => trivial), (kp f10), (kp f11)⟩
      · obtain rfl := Option.some.inj ho
        have g1 := f1 (hd ⟨1, .data⟩ (by simp) rfl)
        subst g1
        refine wpOp_step rfl (fun K' hK => ?_)
        go_simp
        refine (heapValid_any _ _ _ _ _ _ h ww (r0.up I0) hn hm hnc hmd).mono ?_
        rw [HV.out]
        rintro e w' ⟨rfl, b5⟩
        refine hK _ _ ?_
        exact ⟨_, _, _, _, _, _, _, _, _, _, _, _, rfl, (I0.trans (b5.mono I0.size)), (kp f0), (kp f1), (fun _ => rfl), (kp f3), (fun _ => trivial), (fun _ => trivial), (fun _ => trivial), (fun _ => trivial), (fun _ => trivial), (fun _ => trivial), (kp f10), (kp f11)⟩
      · obtain rfl := Option.some.inj ho
        have g2 := f2 (hd ⟨2, .data⟩ (by simp) rfl)
        subst g2
        refine wpOp_step rfl (fun K' hK => ?_)
        go_simp
        refine hK _ _ ?_
        exact ⟨_, _, _, _, _, _, _, _, _, _, _, _, rfl, (I0), (kp f0), (kp f1), (kp f2), (fun _ => rfl), (fun _ => trivial), (fun _ => trivial), (fun _ => trivial), (fun _ => trivial), (fun _ => trivial), (fun _ => trivial), (kp f10), (kp f11)⟩
      · obtain rfl := Option.some.inj ho
        have g3 := f3 (hd ⟨3, .guard⟩ (by simp) rfl)
        subst g3
        refine wpOp_step rfl (fun K' hK => ?_)
        go_simp
        refine hK _ _ ?_
        exact ⟨_, _, _, _, _, _, _, _, _, _, _, _, rfl, (I0), (kp f0), (kp f1), (kp f2), (kp f3), (fun _ => trivial), (fun _ => trivial), (fun _ => trivial), (fun _ => trivial), (fun _ => trivial), (fun _ => trivial), (kp f10), (kp f11)⟩
      · obtain rfl := Option.some.inj ho
        have g3 := f3 (hd ⟨3, .guard⟩ (by simp) rfl)
        subst g3
        refine wpOp_step rfl (fun K' hK => ?_)
        go_simp
        refine hK _ _ ?_
        exact ⟨_, _, _, _, _, _, _, _, _, _, _, _, rfl, (I0), (kp f0), (kp f1), (kp f2), (kp f3), (fun _ => trivial), (fun _ => trivial), (fun _ => trivial), (fun _ => trivial), (fun _ => trivial), (fun _ => trivial), (kp f10), (kp f11)⟩
      · obtain rfl := Option.some.inj ho
        have g3 := f3 (hd ⟨3, .guard⟩ (by simp) rfl)
        subst g3
        refine wpOp_step rfl (fun K' hK => ?_)
        go_simp
        refine hK _ _ ?_
        exact ⟨_, _, _, _, _, _, _, _, _, _, _, _, rfl, (I0), (kp f0), (kp f1), (kp f2), (kp f3), (fun _ => trivial), (fun _ => trivial), (fun _ => trivial), (fun _ => trivial), (fun _ => trivial), (fun _ => trivial), (kp f10), (kp f11)⟩
      · obtain rfl := Option.some.inj ho
        have g3 := f3 (hd ⟨3, .guard⟩ (by simp) rfl)
        subst g3
        refine wpOp_step rfl (fun K' hK => ?_)
        go_simp
        refine hK _ _ ?_
        exact ⟨_, _, _, _, _, _, _, _, _, _, _, _, rfl, (I0), (kp f0), (kp f1), (kp f2), (kp f3), (fun _ => trivial), (fun _ => trivial), (fun _ => trivial), (fun _ => trivial), (fun _ => trivial), (fun _ => trivial), (kp f10), (kp f11)⟩
      · obtain rfl := Option.some.inj ho
        have g3 := f3 (hd ⟨3, .guard⟩ (by simp) rfl)
        subst g3
        refine wpOp_step rfl (fun K' hK => ?_)
        go_simp
        refine hK _ _ ?_
        exact ⟨_, _, _, _, _, _, _, _, _, _, _, _, rfl, (I0), (kp f0), (kp f1), (kp f2), (kp f3), (fun _ => trivial), (fun _ => trivial), (fun _ => trivial), (fun _ => trivial), (fun _ => trivial), (fun _ => trivial), (kp f10), (kp f11)⟩
      · obtain rfl := Option.some.inj ho
        have g3 := f3 (hd ⟨3, .guard⟩ (by simp) rfl)
        subst g3
        refine wpOp_step rfl (fun K' hK => ?_)
        go_simp
        refine hK _ _ ?_
        exact ⟨_, _, _, _, _, _, _, _, _, _, _, _, rfl, (I0), (kp f0), (kp f1), (kp f2), (kp f3), (fun _ => trivial), (fun _ => trivial), (fun _ => trivial), (fun _ => trivial), (fun _ => trivial), (fun _ => trivial), (kp f10), (kp f11)⟩
      · obtain rfl := Option.some.inj ho
        have g3 := f3 (hd ⟨3, .data⟩ (by simp) rfl)
        subst g3
        refine wpOp_step rfl (fun K' hK => ?_)
        go_simp
        refine hK _ _ ?_
        exact ⟨_, _, _, _, _, _, _, _, _, _, _, _, rfl, (I0), (kp f0), (kp f1), (kp f2), (kp f3), (fun _ => trivial), (fun _ => trivial), (fun _ => trivial), (fun _ => trivial), (fun _ => trivial), (fun _ => trivial), (fun _ => rfl), (kp f11)⟩
      · obtain rfl := Option.some.inj ho
        have g10 := f10 (hd ⟨10, .data⟩ (by simp) rfl)
        subst g10
        refine wpOp_step rfl (fun K' hK => ?_)
        go_simp
        refine hK _ _ ?_
        exact ⟨_, _, _, _, _, _, _, _, _, _, _, _, rfl, (I0), (kp f0), (kp f1), (kp f2), (kp f3), (fun _ => trivial), (fun _ => trivial), (fun _ => trivial), (fun _ => trivial), (fun _ => trivial), (fun _ => trivial), (kp f10), (fun _ => rfl)⟩
    case hdone =>
      rintro L ac ww hall ⟨t2, t3, t4, t5, t6, t7, t8, t9, t10, t11, t12, t13, rfl, I0, f0, f1, f2, f3, f4, f5, f6, f7, f8, f9, f10, f11⟩
      have e0 := f0 (hall 0 (by decide))
      have e1 := f1 (hall 1 (by decide))
      have e2 := f2 (hall 2 (by decide))
      have e3 := f3 (hall 3 (by decide))
      have e4 := f4 (hall 4 (by decide))
      have e5 := f5 (hall 5 (by decide))
      have e6 := f6 (hall 6 (by decide))
      have e7 := f7 (hall 7 (by decide))
      have e8 := f8 (hall 8 (by decide))
      have e9 := f9 (hall 9 (by decide))
      have e10 := f10 (hall 10 (by decide))
      have e11 := f11 (hall 11 (by decide))
      clear f0 f1 f2 f3 f4 f5 f6 f7 f8 f9 f10 f11
      subst e11
      have bbf := b0.trans (I0.mono b0.size)
      clear I0 e0 e1 e2 e3 e4 e5 e6 e7 e8 e9 e10 hall x0 x1 x2 Q0 r0 k0
      go_wp2_with fail
      go_ret
      exact ⟨by rw [HOK.out]; simp, by have := HB.out; subst this; exact bbf⟩
  · skip
    refine wp_region_inv (by kernel_rfl) (by kernel_rfl) (fun L ac ww => ∃ t2 t3 t4 t5 t6 t7 t8 t9 t10 t11 t12 t13 : Value, ac = { tmps := #[ctV A n c R m d K p q, Value.pointer (some { block := b, off := 0 }), t2, t3, t4, t5, t6, t7, t8, t9, t10, t11, t12, t13], defers := [] } ∧ (Below w2.heap.size w2 ww) ∧ (L 0 = true → t3 = .pointer (some ⟨b, 0, none⟩)) ∧ (L 1 = true → t4 = .agg #[.slice A n c, .slice R m d]) ∧ (L 2 = true → t5 = .bool true) ∧ (L 3 = true → t6 = .bool true) ∧ (L 4 = true → t7 = .pointer (some ⟨b, 2, none⟩)) ∧ (L 5 = true → t8 = .slice K p q) ∧ (L 6 = true → t9 = .pointer (some ⟨b, 0, none⟩)) ∧ (L 7 = true → t10 = .agg #[.slice A n c, .slice R m d]) ∧ (L 8 = true → ∃ A5 n5 c5, t11 = .slice A5 n5 c5 ∧ n5 ≤ 1099511627776 ∧ IS ww ww.heap.size A5 n5 (Hps.countsH h)) ∧ (L 9 = true → t12 = .bool (decide (l = Hps.countsH h))) ∧ (L 10 = true → t13 = .bool (decide (l = Hps.countsH h))) ∧ (L 11 = true → t2 = .bool (decide (l = Hps.countsH h)))) ?h0 ?hstep ?hdone
    case h0 => exact ⟨_, _, _, _, _, _, _, _, _, _, _, _, rfl, (Below.refl _ _).drew, (fun h => absurd h Bool.false_ne_true), (fun h => absurd h Bool.false_ne_true), (fun h => absurd h Bool.false_ne_true), (fun h => absurd h Bool.false_ne_true), (fun h => absurd h Bool.false_ne_true), (fun h => absurd h Bool.false_ne_true), (fun h => absurd h Bool.false_ne_true), (fun h => absurd h Bool.false_ne_true), (fun h => absurd h Bool.false_ne_true), (fun h => absurd h Bool.false_ne_true), (fun h => absurd h Bool.false_ne_true), (fun h => absurd h Bool.false_ne_true)⟩
    case hstep =>
      rintro L ac ww i o ho hL hd ⟨t2, t3, t4, t5, t6, t7, t8, t9, t10, t11, t12, t13, rfl, I0, f0, f1, f2, f3, f4, f5, f6, f7, f8, f9, f10, f11⟩
      have hi : i < 12 := (Array.getElem?_eq_some_iff.1 ho).1
      obtain rfl | rfl | rfl | rfl | rfl | rfl | rfl | rfl | rfl | rfl | rfl | rfl : i = 0 ∨ i = 1 ∨ i = 2 ∨ i = 3 ∨ i = 4 ∨ i = 5 ∨ i = 6 ∨ i = 7 ∨ i = 8 ∨ i = 9 ∨ i = 10 ∨ i = 11 := by omega
      · obtain rfl := Option.some.inj ho
        refine wpOp_step rfl (fun K' hK => ?_)
        go_simp
        refine hK _ _ ?_
        exact ⟨_, _, _, _, _, _, _, _, _, _, _, _, rfl, (I0), (fun _ => rfl), (kp f1), (kp f2), (kp f3), (kp f4), (kp f5), (kp f6), (kp f7), (kp f8), (kp f9), (kp f10), (kp f11)⟩
      · obtain rfl := Option.some.inj ho
        have g0 := f0 (hd ⟨0, .data⟩ (by simp) rfl)
        subst g0
        have z0 : ww.cell? ⟨b, 0, none⟩ = some (.slice A n c) := (I0.cell (p := ⟨b, 0, none⟩) hbl).trans x0
        have z1 : ww.cell? ⟨b, 1, none⟩ = some (.slice R m d) := (I0.cell (p := ⟨b, 1, none⟩) hbl).trans x1
        have z2 : ww.cell? ⟨b, 2, none⟩ = some (.slice K p q) := (I0.cell (p := ⟨b, 2, none⟩) hbl).trans x2
        refine wpOp_step rfl (fun K' hK => ?_)
        go_simp
        refine hK _ _ ?_
        exact ⟨_, _, _, _, _, _, _, _, _, _, _, _, rfl, (I0), (kp f0), (fun _ => rfl), (kp f2), (kp f3), (kp f4), (kp f5), (kp f6), (kp f7), (kp f8), (kp f9), (kp f10), (kp f11)⟩
      · obtain rfl := Option.some.inj ho
        have g1 := f1 (hd ⟨1, .data⟩ (by simp) rfl)
        subst g1
        refine wpOp_step rfl (fun K' hK => ?_)
        go_simp
        refine (heapValid_any _ _ _ _ _ _ h ww (r0.up I0) hn hm hnc hmd).mono ?_
        rw [HV.out]
        rintro e w' ⟨rfl, b5⟩
        refine hK _ _ ?_
        exact ⟨_, _, _, _, _, _, _, _, _, _, _, _, rfl, (I0.trans (b5.mono I0.size)), (kp f0), (kp f1), (fun _ => rfl), (kp f3), (kp f4), (kp f5), (kp f6), (kp f7), (fun h => by
          obtain ⟨A5, n5, c5, e, hn5, hr9⟩ := f8 (upd_ne h (by decide))
          exact ⟨A5, n5, c5, e, hn5, hr9.up b5⟩), (kp f9), (kp f10), (kp f11)⟩
      · obtain rfl := Option.some.inj ho
        have g2 := f2 (hd ⟨2, .data⟩ (by simp) rfl)
        subst g2
        refine wpOp_step rfl (fun K' hK => ?_)
        go_simp
        refine hK _ _ ?_
        exact ⟨_, _, _, _, _, _, _, _, _, _, _, _, rfl, (I0), (kp f0), (kp f1), (kp f2), (fun _ => rfl), (kp f4), (kp f5), (kp f6), (kp f7), (kp f8), (kp f9), (kp f10), (kp f11)⟩
      · obtain rfl := Option.some.inj ho
        have g3 := f3 (hd ⟨3, .guard⟩ (by simp) rfl)
        subst g3
        refine wpOp_step rfl (fun K' hK => ?_)
        go_simp
        refine hK _ _ ?_
        exact ⟨_, _, _, _, _, _, _, _, _, _, _, _, rfl, (I0), (kp f0), (kp f1), (kp f2), (kp f3), (fun _ => rfl), (kp f5), (kp f6), (kp f7), (kp f8), (kp f9), (kp f10), (kp f11)⟩
      · obtain rfl := Option.some.inj ho
        have g4 := f4 (hd ⟨4, .data⟩ (by simp) rfl)
        subst g4
        have g3 := f3 (hd ⟨3, .guard⟩ (by simp) rfl)
        subst g3
        have z0 : ww.cell? ⟨b, 0, none⟩ = some (.slice A n c) := (I0.cell (p := ⟨b, 0, none⟩) hbl).trans x0
        have z1 : ww.cell? ⟨b, 1, none⟩ = some (.slice R m d) := (I0.cell (p := ⟨b, 1, none⟩) hbl).trans x1
        have z2 : ww.cell? ⟨b, 2, none⟩ = some (.slice K p q) := (I0.cell (p := ⟨b, 2, none⟩) hbl).trans x2
        refine wpOp_step rfl (fun K' hK => ?_)
        go_simp
        refine hK _ _ ?_
        exact ⟨_, _, _, _, _, _, _, _, _, _, _, _, rfl, (I0), (kp f0), (kp f1), (kp f2), (kp f3), (kp f4), (fun _ => rfl), (kp f6), (kp f7), (kp f8), (kp f9), (kp f10), (kp f11)⟩
      · obtain rfl := Option.some.inj ho
        have g3 := f3 (hd ⟨3, .guard⟩ (by simp) rfl)
        subst g3
        refine wpOp_step rfl (fun K' hK => ?_)
        go_simp
        refine hK _ _ ?_
        exact ⟨_, _, _, _, _, _, _, _, _, _, _, _, rfl, (I0), (kp f0), (kp f1), (kp f2), (kp f3), (kp f4), (kp f5), (fun _ => rfl), (kp f7), (kp f8), (kp f9), (kp f10), (kp f11)⟩
      · obtain rfl := Option.some.inj ho
        have g6 := f6 (hd ⟨6, .data⟩ (by simp) rfl)
        subst g6
        have g3 := f3 (hd ⟨3, .guard⟩ (by simp) rfl)
        subst g3
        have z0 : ww.cell? ⟨b, 0, none⟩ = some (.slice A n c) := (I0.cell (p := ⟨b, 0, none⟩) hbl).trans x0
        have z1 : ww.cell? ⟨b, 1, none⟩ = some (.slice R m d) := (I0.cell (p := ⟨b, 1, none⟩) hbl).trans x1
        have z2 : ww.cell? ⟨b, 2, none⟩ = some (.slice K p q) := (I0.cell (p := ⟨b, 2, none⟩) hbl).trans x2
        refine wpOp_step rfl (fun K' hK => ?_)
        go_simp
        refine hK _ _ ?_
        exact ⟨_, _, _, _, _, _, _, _, _, _, _, _, rfl, (I0), (kp f0), (kp f1), (kp f2), (kp f3), (kp f4), (kp f5), (kp f6), (fun _ => rfl), (kp f8), (kp f9), (kp f10), (kp f11)⟩
      · obtain rfl := Option.some.inj ho
        have g7 := f7 (hd ⟨7, .data⟩ (by simp) rfl)
        subst g7
        have g3 := f3 (hd ⟨3, .guard⟩ (by simp) rfl)
        subst g3
        refine wpOp_step rfl (fun K' hK => ?_)
        go_simp
        refine (refCounts_any _ _ _ _ _ _ h ww (r0.up I0) hn hm hnc hmd).mono ?_
        rintro e w' ⟨v1, rfl, ow, b5⟩
        obtain ⟨A5, c5, rfl, -⟩ := ow.form
        have hr9 := ow.reads
        refine hK _ _ ?_
        exact ⟨_, _, _, _, _, _, _, _, _, _, _, _, rfl, (I0.trans (b5.mono I0.size)), (kp f0), (kp f1), (kp f2), (kp f3), (kp f4), (kp f5), (kp f6), (kp f7), (fun _ => ⟨A5, _, c5, rfl, by omega, hr9⟩), (kp f9), (kp f10), (kp f11)⟩
      · obtain rfl := Option.some.inj ho
        have g5 := f5 (hd ⟨5, .data⟩ (by simp) rfl)
        have g8 := f8 (hd ⟨8, .data⟩ (by simp) rfl)
        subst g5
        have g3 := f3 (hd ⟨3, .guard⟩ (by simp) rfl)
        subst g3
        obtain ⟨A5, n5, c5, rfl, hn5, hr9⟩ := g8
        refine wpOp_step rfl (fun K' hK => ?_)
        go_simp
        refine (equalI_any _ _ _ _ _ _ l (Hps.countsH h) ww (k0.up I0) hr9 hp hn5).mono ?_
        rintro e w' ⟨rfl, b5⟩
        refine hK _ _ ?_
        exact ⟨_, _, _, _, _, _, _, _, _, _, _, _, rfl, (I0.trans (b5.mono I0.size)), (kp f0), (kp f1), (kp f2), (kp f3), (kp f4), (kp f5), (kp f6), (kp f7), (fun _ => ⟨A5, n5, c5, rfl, hn5, hr9.up b5⟩), (fun _ => rfl), (kp f10), (kp f11)⟩
      · obtain rfl := Option.some.inj ho
        have g3 := f3 (hd ⟨3, .data⟩ (by simp) rfl)
        have g9 := f9 (hd ⟨9, .data⟩ (by simp) rfl)
        subst g3
        subst g9
        refine wpOp_step rfl (fun K' hK => ?_)
        go_simp
        refine hK _ _ ?_
        exact ⟨_, _, _, _, _, _, _, _, _, _, _, _, rfl, (I0), (kp f0), (kp f1), (kp f2), (kp f3), (kp f4), (kp f5), (kp f6), (kp f7), (kp f8), (kp f9), (fun _ => rfl), (kp f11)⟩
      · obtain rfl := Option.some.inj ho
        have g10 := f10 (hd ⟨10, .data⟩ (by simp) rfl)
        subst g10
        refine wpOp_step rfl (fun K' hK => ?_)
        go_simp
        refine hK _ _ ?_
        exact ⟨_, _, _, _, _, _, _, _, _, _, _, _, rfl, (I0), (kp f0), (kp f1), (kp f2), (kp f3), (kp f4), (kp f5), (kp f6), (kp f7), (kp f8), (kp f9), (kp f10), (fun _ => rfl)⟩
    case hdone =>
      rintro L ac ww hall ⟨t2, t3, t4, t5, t6, t7, t8, t9, t10, t11, t12, t13, rfl, I0, f0, f1, f2, f3, f4, f5, f6, f7, f8, f9, f10, f11⟩
      have e0 := f0 (hall 0 (by decide))
      have e1 := f1 (hall 1 (by decide))
      have e2 := f2 (hall 2 (by decide))
      have e3 := f3 (hall 3 (by decide))
      have e4 := f4 (hall 4 (by decide))
      have e5 := f5 (hall 5 (by decide))
      have e6 := f6 (hall 6 (by decide))
      have e7 := f7 (hall 7 (by decide))
      have e8 := f8 (hall 8 (by decide))
      have e9 := f9 (hall 9 (by decide))
      have e10 := f10 (hall 10 (by decide))
      have e11 := f11 (hall 11 (by decide))
      clear f0 f1 f2 f3 f4 f5 f6 f7 f8 f9 f10 f11
      subst e11
      have bbf := b0.trans (I0.mono b0.size)
      clear I0 e0 e1 e2 e3 e4 e5 e6 e7 e8 e9 e10 hall x0 x1 x2 Q0 r0 k0
      go_wp2_with fail
      go_ret
      exact ⟨by rw [HOK.out]; simp, by have := HB.out; subst this; exact bbf⟩
end Go.Proofs.YthmddmddcdofaaaDoor

