/- What the claim DStepCounted stands on, part 4 of 6: texts of one seat put together, with what the claim needs of them. No conditions. -/
import Derived.Test.YtfgdenmlfloloaaDoorShBc
namespace Go.Proofs.YtfgdenmlfloloaaDoor
open Go.RowKit
set_option maxRecDepth 100000
theorem row_sameX {w w' : World} {base lo n : Nat} {e : TypeId} {s : Nat} {v : Value} {xs : List Value} {bad : Nat → Prop} (h : w.ownsRow base e s v n xs) (hl : lo ≤ base) (hv : ∀ k, v.ownBlock = some k → ¬ bad k) (hb : ∀ j, lo ≤ j → j < w.heap.size → ¬ bad j → w'.heap[j]? = w.heap[j]?) : w'.ownsRow base e s v n xs := by
  refine ⟨h.1, ?_⟩
  rcases h.2 with h0 | ⟨g, cap, cur, e, hb', hh, hr⟩
  · exact .inl h0
  · exact .inr ⟨g, cap, cur, e, hb', (hb g (by omega) (Array.getElem?_eq_some_iff.1 hh).1 (hv g (by rw [e]; rfl))).trans hh, hr⟩
/-- a heap whose blocks from lo on, but bad ones, may be read in every later world that has left them alone -/
def HFX (w : World) (lo : Nat) (bad : Nat → Prop) (A : Option Addr) (n : Nat) (R : Option Addr) (m : Nat) (h : Hp) : Prop :=
  ∀ w', w.heap.size ≤ w'.heap.size → (∀ j, lo ≤ j → j < w.heap.size → ¬ bad j → w'.heap[j]? = w.heap[j]?) → HS w' w'.heap.size A n R m h
theorem OwnHx.sameX {w w' : World} {base lo : Nat} {vc vr : Value} {rvs : List Value} {h : Hp} {bad : Nat → Prop} (o : OwnHx w base vc vr rvs h) (hl : lo ≤ base) (hv : ∀ v ∈ vc :: vr :: rvs, ∀ k, v.ownBlock = some k → ¬ bad k) (hb : ∀ j, lo ≤ j → j < w.heap.size → ¬ bad j → w'.heap[j]? = w.heap[j]?) : OwnHx w' base vc vr rvs h :=
  ⟨o.len, row_sameX o.row hl (hv vc (by simp)) hb, fun k c v hc hk => row_sameX (o.refs k c v hc hk) hl (hv v (by simp [List.mem_of_getElem? hk])) hb, row_sameX o.roots hl (hv vr (by simp)) hb, o.sep⟩
theorem OwnHx.hfx {w : World} {base lo n c m d : Nat} {A R : Option Addr} {rvs : List Value} {h : Hp} {bad : Nat → Prop} (o : OwnHx w base (.slice A n c) (.slice R m d) rvs h) (hl : lo ≤ base) (hv : ∀ v ∈ (Value.slice A n c) :: (.slice R m d) :: rvs, ∀ k, v.ownBlock = some k → ¬ bad k) : HFX w lo bad A n R m h := fun _ _ hb => (o.sameX hl hv hb).reads
theorem HF.x {w w1 : World} {lo n m : Nat} {A R : Option Addr} {h : Hp} {bad : Nat → Prop} (H : HF w lo A n R m h) (hs : w.heap.size ≤ w1.heap.size) (hb : ∀ j, lo ≤ j → j < w.heap.size → w1.heap[j]? = w.heap[j]?) (hg : ∀ j, bad j → w.heap.size ≤ j) : HFX w1 lo bad A n R m h := fun w' h1 h2 =>
  H w' (Nat.le_trans hs h1) fun j hj hk => (h2 j hj (by omega) (fun e => by have := hg j e; omega)).trans (hb j hj hk)
theorem HFX.step {w w1 : World} {lo n m : Nat} {A R : Option Addr} {h : Hp} {bad : Nat → Prop} (H : HFX w lo bad A n R m h) (hs : w.heap.size ≤ w1.heap.size) (hb : ∀ j, lo ≤ j → j < w.heap.size → ¬ bad j → w1.heap[j]? = w.heap[j]?) : HFX w1 lo bad A n R m h := fun w' h1 h2 =>
  H w' (Nat.le_trans hs h1) fun j hj hk hnb => (h2 j hj (by omega) hnb).trans (hb j hj hk hnb)
theorem HFX.reads {w : World} {lo n m : Nat} {A R : Option Addr} {h : Hp} {bad : Nat → Prop} (H : HFX w lo bad A n R m h) : HS w w.heap.size A n R m h := H w (Nat.le_refl _) fun _ _ _ _ => rfl
/-- while a heap with counts is drawn: the heap, the counts, the box b, the reader in gr -/
structure CtSt (w wr : World) (gr N b : Nat) (A : Option Addr) (nn c : Nat) (R : Option Addr) (m d : Nat) (K : Option Addr) (p q : Nat) (h : Hp) (l : List Int) : Prop where
  heap : HFX wr (w.heap.size + 1) (fun j => j = b ∨ (Value.slice K p q).ownBlock = some j) A nn R m h
  cnts : OwnI wr (w.heap.size + 1) (.slice K p q) l
  apart : (Value.slice K p q).ownBlock ≠ some b
  box : Rw wr b 34 #[.slice A nn c, .slice R m d, .slice K p q]
  res : Rw wr w.heap.size 34 #[.slice none 0 0, .slice none 0 0, .slice none 0 0]
  rd : Rd wr gr N
  grown : w.grownBy wr (some gr)
  lo : w.heap.size + 1 ≤ b
  old : gr < w.heap.size
  small : SmallH h
  len : l.length ≤ 41
  caps : nn ≤ c ∧ m ≤ d
/-- at the end: heap and counts from lo on may be read in every later world that has left them alone -/
def CF (w : World) (lo : Nat) (A : Option Addr) (n : Nat) (R : Option Addr) (m : Nat) (K : Option Addr) (p : Nat) (h : Hp) (l : List Int) : Prop :=
  ∀ w', w.heap.size ≤ w'.heap.size → (∀ j, lo ≤ j → j < w.heap.size → w'.heap[j]? = w.heap[j]?) → HS w' w'.heap.size A n R m h ∧ IS w' w'.heap.size K p l
def DrewCt (w : World) (gr N : Nat) (e : Ending) (w' : World) : Prop :=
  ∃ (A : Option Addr) (nn c : Nat) (R : Option Addr) (m d : Nat) (K : Option Addr) (p q : Nat) (h : Hp) (l : List Int), e = .returned (ctV A nn c R m d K p q) ∧ nn ≤ c ∧ m ≤ d ∧ p ≤ q ∧ CF w' w.heap.size A nn R m K p h l ∧ SmallH h ∧ l.length ≤ 41 ∧ Rd w' gr (N + 2000) ∧ w.grownBy w' (some gr)
/-- the end: as CtSt, but the counts may be cut -/
structure CtEnd (w wr : World) (gr N b : Nat) (A : Option Addr) (nn c : Nat) (R : Option Addr) (m d : Nat) (K : Option Addr) (p q : Nat) (h : Hp) (l : List Int) : Prop where
  all : CF wr (w.heap.size + 1) A nn R m K p h l
  box : Rw wr b 34 #[.slice A nn c, .slice R m d, .slice K p q]
  res : Rw wr w.heap.size 34 #[.slice none 0 0, .slice none 0 0, .slice none 0 0]
  rd : Rd wr gr N
  grown : w.grownBy wr (some gr)
  old : gr < w.heap.size
  small : SmallH h
  len : l.length ≤ 41
  caps : nn ≤ c ∧ m ≤ d ∧ p ≤ q
section
variable {w wr w1 : World} {gr N N' b nn c m d p q : Nat} {A R K : Option Addr} {h : Hp} {l : List Int}
theorem CtSt.pick (S : CtSt w wr gr N b A nn c R m d K p q h l) (hr : Rd w1 gr N') (hg : wr.grownBy w1 (some gr)) : CtSt w w1 gr N' b A nn c R m d K p q h l := by
  have h1 := S.lo
  have h2 := S.old
  refine ⟨S.heap.step hg.size fun j hj hk _ => hg.block j hk (fun e => by have := Option.some.inj e; omega), S.cnts.far hg ?_, S.apart, S.box.far hg (fun e => by have := Option.some.inj e; omega), S.res.far hg (fun e => by have := Option.some.inj e; omega), hr, World.grownBy.trans S.grown hg, h1, h2, S.small, S.len, S.caps⟩
  right
  intro e
  have := (World.ownsRow.lt S.cnts gr e).1
  omega
theorem CtSt.more (S : CtSt w wr gr N b A nn c R m d K p q h l) (hN : N ≤ N') : CtSt w wr gr N' b A nn c R m d K p q h l := ⟨S.heap, S.cnts, S.apart, S.box, S.res, S.rd.more hN, S.grown, S.lo, S.old, S.small, S.len, S.caps⟩
theorem CtSt.fin (S : CtSt w wr gr N b A nn c R m d K p q h l) : CtEnd w wr gr N b A nn c R m d K p q h l := by
  refine ⟨fun w' hs hb => ⟨S.heap w' hs fun j hj hk _ => hb j hj hk, ?_⟩, S.box, S.res, S.rd, S.grown, S.old, S.small, S.len, S.caps.1, S.caps.2, S.cnts.cap.2⟩
  exact OwnI.reads (row_same S.cnts (Nat.le_refl _) hb)
theorem CtSt.drew (S : CtSt w wr gr N b A nn c R m d K p q h l) : CtSt w wr.drew gr N b A nn c R m d K p q h l := by
  have hb : Below wr.heap.size wr wr.drew := (Below.refl _ _).drew
  exact ⟨S.heap.step hb.size fun j _ hk _ => hb.block j hk, S.cnts.below hb (Nat.le_refl _), S.apart, S.box.keep hb S.box.lt, S.res.keep hb S.res.lt, S.rd.below hb S.rd.lt, grown_below S.grown (hb.mono (by have := S.grown.size; omega)), S.lo, S.old, S.small, S.len, S.caps⟩
/-- one count is written -/
theorem CtSt.put {g i : Nat} (S : CtSt w wr gr N b A nn c R m d (some ⟨g, 0, none⟩) p q h l) (x : Int) : CtSt w (wr.setCell ⟨g, i, none⟩ (.int .i64 x)) gr N b A nn c R m d (some ⟨g, 0, none⟩) p q h (l.set i x) := by
  have hl := S.cnts.cap.1
  subst hl
  have h1 := S.lo
  have h2 := S.old
  have h3 := (World.ownsRow.lt S.cnts g rfl).1
  have h4 : b ≠ g := fun e => S.apart (by rw [e]; rfl)
  have hB : Below w.heap.size wr (wr.setCell ⟨g, i, none⟩ (.int .i64 x)) := (Below.refl _ _).setCell (p := ⟨g, i, none⟩) (by show w.heap.size ≤ g; omega) _
  have e1 : (l.set i x).length = l.length := by simp
  refine ⟨S.heap.step (by simp) fun j hj hk hn => Below.heap_setCell _ _ _ _ (fun e => hn (.inr (by rw [e]; rfl))), ?_, S.apart, S.box.other h4 _, S.res.other (by omega) _, S.rd.below hB h2, grown_below S.grown hB, h1, h2, S.small, by rw [e1]; exact S.len, S.caps⟩
  have := S.cnts.put (j := i) x
  exact this
/-- the first count is cut off -/
theorem CtSt.cut {g : Nat} (S : CtSt w wr gr N b A nn c R m d (some ⟨g, 0, none⟩) (p + 1) q h l) : CtEnd w (wr.setCell ⟨b, 2, none⟩ (.slice (some ⟨g, 1, none⟩) p (q - 1))) gr N b A nn c R m d (some ⟨g, 1, none⟩) p (q - 1) h (l.drop 1) := by
  have h1 := S.lo
  have h2 := S.old
  have hc := S.cnts.cap
  have h4 : b ≠ g := fun e => S.apart (by rw [e]; rfl)
  have hg := (World.ownsRow.lt S.cnts g rfl)
  have hB : Below w.heap.size wr (wr.setCell ⟨b, 2, none⟩ (.slice (some ⟨g, 1, none⟩) p (q - 1))) := (Below.refl _ _).setCell (p := ⟨b, 2, none⟩) (by show w.heap.size ≤ b; omega) _
  refine ⟨fun w' hs hb => ?_, S.box.put 2 _, S.res.other (by omega) _, S.rd.below hB h2, grown_below S.grown hB, h2, S.small, by have := S.len; simp; omega, S.caps.1, S.caps.2, by omega⟩
  have hx : ∀ j, w.heap.size + 1 ≤ j → j < wr.heap.size → j ≠ b → w'.heap[j]? = wr.heap[j]? := fun j hj hk hne => (hb j hj (by simpa using hk)).trans (Below.heap_setCell _ _ _ _ hne)
  refine ⟨S.heap w' (by simpa using hs) fun j hj hk hn => hx j hj hk (fun e => hn (.inl e)), ?_⟩
  have := row_sameX (bad := fun j => j = b) (w' := w') S.cnts (Nat.le_refl _) (fun k hk e => by have := Option.some.inj hk; exact h4 (by rw [← e, ← this])) (fun j hj hk hn => hx j hj hk hn)
  exact (OwnI.reads this).drop1
/-- the only count is cut off, and nothing lies behind it -/
theorem CtSt.cut1 {g : Nat} (S : CtSt w wr gr N b A nn c R m d (some ⟨g, 0, none⟩) 1 1 h l) : CtEnd w (wr.setCell ⟨b, 2, none⟩ (.slice (some ⟨g, 0, none⟩) 0 0)) gr N b A nn c R m d (some ⟨g, 0, none⟩) 0 0 h [] := by
  have h1 := S.lo
  have h2 := S.old
  have hB : Below w.heap.size wr (wr.setCell ⟨b, 2, none⟩ (.slice (some ⟨g, 0, none⟩) 0 0)) := (Below.refl _ _).setCell (p := ⟨b, 2, none⟩) (by show w.heap.size ≤ b; omega) _
  refine ⟨fun w' hs hb => ?_, S.box.put 2 _, S.res.other (by omega) _, S.rd.below hB h2, grown_below S.grown hB, h2, S.small, by simp, S.caps.1, S.caps.2, by omega⟩
  have hx : ∀ j, w.heap.size + 1 ≤ j → j < wr.heap.size → j ≠ b → w'.heap[j]? = wr.heap[j]? := fun j hj hk hne => (hb j hj (by simpa using hk)).trans (Below.heap_setCell _ _ _ _ hne)
  exact ⟨S.heap w' (by simpa using hs) fun j hj hk hn => hx j hj hk (fun e => hn (.inl e)), IS.none_ _ _ _⟩
/-- heap and counts of a call's own come into the box -/
theorem CtSt.next {w5 : World} {A' R' K' : Option Addr} {nn' c' m' d' p' q' : Nat} {h' : Hp} {l' : List Int} (S : CtSt w wr gr N b A nn c R m d K p q h l) (B : Below wr.heap.size wr w5) (o : OwnC w5 wr.heap.size (.slice A' nn' c') (.slice R' m' d') (.slice K' p' q') h' l') (hs : SmallH h') (hl : l'.length ≤ 41) :
    CtSt w (((w5.setCell ⟨b, 0, none⟩ (.slice A' nn' c')).setCell ⟨b, 1, none⟩ (.slice R' m' d')).setCell ⟨b, 2, none⟩ (.slice K' p' q')) gr N b A' nn' c' R' m' d' K' p' q' h' l' := by
  have hb := S.box.lt
  have hlo := S.lo
  have hold := S.old
  obtain ⟨rvs, own⟩ := o
  have ap := own.apart_below hb
  have hB0 : Below b w5 (((w5.setCell ⟨b, 0, none⟩ (.slice A' nn' c')).setCell ⟨b, 1, none⟩ (.slice R' m' d')).setCell ⟨b, 2, none⟩ (.slice K' p' q')) := (((Below.refl b w5).setCell (p := ⟨b, 0, none⟩) (Nat.le_refl _) _).setCell (p := ⟨b, 1, none⟩) (Nat.le_refl _) _).setCell (p := ⟨b, 2, none⟩) (Nat.le_refl _) _
  have hB : Below b wr (((w5.setCell ⟨b, 0, none⟩ (.slice A' nn' c')).setCell ⟨b, 1, none⟩ (.slice R' m' d')).setCell ⟨b, 2, none⟩ (.slice K' p' q')) := (B.mono (by omega)).trans hB0
  have own2 := (((own.put ap 0 (.slice A' nn' c')).put ap 1 (.slice R' m' d')).put ap 2 (.slice K' p' q')).base (bs' := w.heap.size + 1) (by have := S.grown.size; omega)
  have hsz := S.grown.size
  have hcp := own.heap.caps
  refine ⟨own2.heap.hfx (Nat.le_refl _) (fun v hv k hk => ?_), own2.cnts, ?_, ((S.box.keep B hb).put 0 _ |>.put 1 _ |>.put 2 _), S.res.keep hB (by omega), S.rd.below hB (by omega), grown_below S.grown (hB.mono (by omega)), hlo, hold, hs, hl, hcp.2.2⟩
  · have hk2 := own.heap.blocks hv hk
    rintro (e | e)
    · omega
    · rcases own.sep v hv with e2 | e2
      · rw [hk] at e2; cases e2
      · exact e2 (hk.trans e.symm)
  · intro e
    have := (World.ownsRow.lt own.cnts b e).1
    omega
end
/-- counts of the call's own, and what a pointer v leads to lies apart, once fl -/
def OwnFI (w : World) (base : Nat) (v : Value) (fl : Bool) (vk : Value) (l : List Int) : Prop := OwnI w base vk l ∧ ∀ g, fl = true → v = .pointer (some ⟨g, 0, none⟩) → vk.ownBlock ≠ some g
section
variable {w w' : World} {base : Nat} {v vk : Value} {fl fl' : Bool} {l : List Int}
theorem OwnFI.eq (ho : OwnFI w base v fl vk l) (e : fl' = fl) : OwnFI w base v fl' vk l := e ▸ ho
theorem OwnFI.alloc (ho : OwnFI w base v fl vk l) (ob : Obj) : OwnFI (w.alloc ob) base (.pointer (some ⟨w.heap.size, 0, none⟩)) fl' vk l := by
  refine ⟨World.ownsRow.alloc ho.1 ob, fun g _ e e2 => ?_⟩
  injection e with e
  injection e with e
  injection e with e
  subst e
  have := (World.ownsRow.lt ho.1 _ e2).2
  omega
theorem OwnFI.of {base' : Nat} (hb : base' ≤ base) (ho : OwnI w base vk l) (hv : ∀ g, fl = true → v = .pointer (some ⟨g, 0, none⟩) → g < base) : OwnFI w base' v fl vk l :=
  ⟨ho.base hb, fun g hf e e2 => by have := hv g hf e; have := (World.ownsRow.lt ho g e2).1; omega⟩
theorem OwnFI.put {g : Nat} (ho : OwnFI w base (.pointer (some ⟨g, 0, none⟩)) fl vk l) (hl : fl = true) (u0 u1 u2 : Value) : OwnFI (((w.setCell ⟨g, 0, none⟩ u0).setCell ⟨g, 1, none⟩ u1).setCell ⟨g, 2, none⟩ u2) base (.pointer (some ⟨g, 0, none⟩)) fl vk l := by
  have hn := ho.2 g hl rfl
  exact ⟨((ho.1.far (put_any w g 0 u0) (.inr hn)).far (put_any _ g 1 u1) (.inr hn)).far (put_any _ g 2 u2) (.inr hn), ho.2⟩
end
set_option maxRecDepth 100000 in
set_option maxHeartbeats 8000000 in
theorem l20Counted_any (gr N : Nat) (n : Int) (w : World) (h : Rd w gr N) (hN : N ≤ 8000) (hn1 : 1 ≤ n) (hn : n ≤ 1000) :
    Calls Tryd.prog 56 #[.pointer (some ⟨gr, 0, none⟩), .int .i64 n] w (DrewCt w gr N) := by
  have hgl := h.lt
  have h0 : Rd (w.alloc (.cells #[.slice none 0 0, .slice none 0 0, .slice none 0 0] 34)) gr N := h.below ((Below.refl w.heap.size w).alloc (Nat.le_refl _) _) hgl
  have r0 := Rw.new w 34 #[.slice none 0 0, .slice none 0 0, .slice none 0 0]
  have g0 : w.grownBy (w.alloc (.cells #[.slice none 0 0, .slice none 0 0, .slice none 0 0] 34)) (some gr) := World.grownBy_alloc _ _ _
  have z0 : w.heap.size + 1 = (w.alloc (.cells #[.slice none 0 0, .slice none 0 0, .slice none 0 0] 34)).heap.size := by simp
  go_enter Tryd.func56, Tryd.ntmps56
  go_upto_region 1 with fail
  generalize w.alloc (.cells #[.slice none 0 0, .slice none 0 0, .slice none 0 0] 34) = w0 at h0 r0 g0 z0 ⊢
  have HZ := Lib.hid z0
  clear z0
  go_wp2_with fail
  refine (l20Heap_any gr N n _ h0 (by omega) (by omega) hn).mono ?_
  rintro e w1 ⟨A, nn, c, R, m, d, hh, rfl, hc1, hc2, HFx, -, hsm, hr1, g1⟩
  have r1 := r0.far g1 (fun e => by have := Option.some.inj e; omega)
  have q1 := Rw.new w1 26 #[.slice A nn c, .slice R m d]
  have hs1 : w.heap.size + 1 ≤ w1.heap.size := by have := HZ.out; have := g1.size; omega
  rw [← HZ.out] at HFx
  have HFn := HFx
  have B2 : Below w1.heap.size w1 (w1.alloc (.cells #[.slice A nn c, .slice R m d] 26)) := (Below.refl _ _).alloc (Nat.le_refl _) _
  have r2 := r1.alloc (.cells #[.slice A nn c, .slice R m d] 26)
  have hr2 := hr1.below B2 hr1.lt
  have g2 := grown_below (World.grownBy.trans g0 g1) (B2.mono (by omega))
  have HF2 := HFx.below B2 (Nat.le_refl _)
  have z2 : (w1.alloc (.cells #[.slice A nn c, .slice R m d] 26)).heap.size = w1.heap.size + 1 := by simp
  obtain ⟨bh, hbh⟩ : ∃ bh, w1.heap.size = bh := ⟨_, rfl⟩
  go_upto_region 2 with fail
  generalize w1.alloc (.cells #[.slice A nn c, .slice R m d] 26) = w2 at q1 B2 r2 hr2 g2 HF2 z2 ⊢
  clear HFx HFn
  rw [hbh] at q1 B2 z2 hs1
  have hnn := hsm.1
  have hmm := hsm.2.1
  have hlc := HF2.reads.cells.1
  have hlr := HF2.reads.roots.1
  have CALL := Lib.hid (fun (ww : World) (hB : Below w2.heap.size w2 ww) => mRefCounts_any A R nn c m d hh ww (HF2.below hB (Nat.le_refl _)).reads (by omega) (by omega))
  obtain ⟨ll, hll⟩ : ∃ ll, Hps.countsH hh = ll := ⟨_, rfl⟩
  have HLEN := Lib.hid (show ll.length ≤ 41 by rw [← hll]; exact Nat.le_trans (Hps.countsH_len hh) hnn)
  rw [hll] at CALL
  obtain ⟨p, hp⟩ : ∃ p, ll.length = p := ⟨_, rfl⟩
  have HP := Lib.hid hp
  have x0 : w2.cell? ⟨bh, 0, none⟩ = some (.slice A nn c) := q1.cell 0
  have x1 : w2.cell? ⟨bh, 1, none⟩ = some (.slice R m d) := q1.cell 1
  have hbl : bh < w2.heap.size := by omega
  clear hll hp q1 h0 r0 g0 r1 g1 hr1 B2 hnn hmm hlc hlr hbh w1 h
  refine wp_region_inv (by kernel_rfl) (by kernel_rfl) (fun L ac ww => ∃ t6 t11 t12 t13 t14 : Value, ac = { tmps := #[Value.pointer (some { block := gr, off := 0 }), Value.int IntKind.i64 n, undef, undef, Value.pointer (some { block := w.heap.size, off := 0 }), Value.pointer (some { block := bh, off := 0 }), t6, undef, Value.pointer (some { block := gr, off := 0 }), Value.int IntKind.i64 n, heapV A nn c R m d, t11, t12, t13, t14, undef, undef, undef, undef, undef, undef, undef, undef, undef, undef, undef, undef, undef, undef, undef, undef, undef, undef, undef, undef, undef, undef, undef, undef, undef, undef, undef, undef, undef, undef, undef, undef, undef, undef, undef, undef, undef, undef], defers := [] } ∧ (Below w2.heap.size w2 ww) ∧ (L 5 = true → L 4 = true) ∧ (L 3 = true → L 2 = true) ∧ (L 5 = true → L 3 = true) ∧ (L 0 = true → t11 = .agg #[.slice A nn c, .slice R m d]) ∧ (L 1 = true → t12 = .agg #[.slice A nn c, .slice R m d]) ∧ (L 2 = true → ∃ (K : Option Addr) (q : Nat), t13 = .slice K p q ∧ OwnFI ww w2.heap.size t6 (L 4) (.slice K p q) ll) ∧ (L 3 = true → ∃ (K : Option Addr) (q : Nat), t13 = .slice K p q ∧ t14 = .agg #[.slice A nn c, .slice R m d, .slice K p q]) ∧ (L 4 = true → ∃ (g5 : Nat) (z0 z1 z2 : Value), t6 = .pointer (some ⟨g5, 0, none⟩) ∧ w2.heap.size ≤ g5 ∧ Rw ww g5 34 #[z0, z1, z2]) ∧ (L 5 = true → ∃ (g5 : Nat) (K : Option Addr) (q : Nat), t6 = .pointer (some ⟨g5, 0, none⟩) ∧ w2.heap.size ≤ g5 ∧ Rw ww g5 34 #[.slice A nn c, .slice R m d, .slice K p q] ∧ OwnI ww w2.heap.size (.slice K p q) ll ∧ (Value.slice K p q).ownBlock ≠ some g5)) ?h0 ?hstep ?hdone
  case h0 => exact ⟨_, _, _, _, _, rfl, (Below.refl _ _).drew, fun h => absurd h Bool.false_ne_true, fun h => absurd h Bool.false_ne_true, fun h => absurd h Bool.false_ne_true, (fun h => absurd h Bool.false_ne_true), (fun h => absurd h Bool.false_ne_true), (fun h => absurd h Bool.false_ne_true), (fun h => absurd h Bool.false_ne_true), (fun h => absurd h Bool.false_ne_true), (fun h => absurd h Bool.false_ne_true)⟩
  case hstep =>
    rintro L ac ww i o ho hL hd ⟨t6, t11, t12, t13, t14, rfl, I0, I1, I2, I3, f0, f1, f2, f3, f4, f5⟩
    have hi : i < 6 := (Array.getElem?_eq_some_iff.1 ho).1
    obtain rfl | rfl | rfl | rfl | rfl | rfl : i = 0 ∨ i = 1 ∨ i = 2 ∨ i = 3 ∨ i = 4 ∨ i = 5 := by omega
    · obtain rfl := Option.some.inj ho
      have y0 : ww.cell? ⟨bh, 0, none⟩ = some (.slice A nn c) := (I0.cell (p := ⟨bh, 0, none⟩) hbl).trans x0
      have y1 : ww.cell? ⟨bh, 1, none⟩ = some (.slice R m d) := (I0.cell (p := ⟨bh, 1, none⟩) hbl).trans x1
      refine wpOp_step rfl (fun K' hK => ?_)
      go_simp
      refine hK _ _ ?_
      exact ⟨_, _, _, _, _, rfl, (I0), (fun h => upd_mono (I1 (upd_ne h (by decide)))), (fun h => upd_mono (I2 (upd_ne h (by decide)))), (fun h => upd_mono (I3 (upd_ne h (by decide)))), (fun _ => rfl), (kp f1), (fun h => by
        obtain ⟨K, q, e, oo⟩ := f2 (upd_ne h (by decide))
        exact ⟨K, q, e, oo.eq (upd_other (by decide))⟩), (kp f3), (kp f4), (kp f5)⟩
    · obtain rfl := Option.some.inj ho
      have y0 : ww.cell? ⟨bh, 0, none⟩ = some (.slice A nn c) := (I0.cell (p := ⟨bh, 0, none⟩) hbl).trans x0
      have y1 : ww.cell? ⟨bh, 1, none⟩ = some (.slice R m d) := (I0.cell (p := ⟨bh, 1, none⟩) hbl).trans x1
      refine wpOp_step rfl (fun K' hK => ?_)
      go_simp
      refine hK _ _ ?_
      exact ⟨_, _, _, _, _, rfl, (I0), (fun h => upd_mono (I1 (upd_ne h (by decide)))), (fun h => upd_mono (I2 (upd_ne h (by decide)))), (fun h => upd_mono (I3 (upd_ne h (by decide)))), (kp f0), (fun _ => rfl), (fun h => by
        obtain ⟨K, q, e, oo⟩ := f2 (upd_ne h (by decide))
        exact ⟨K, q, e, oo.eq (upd_other (by decide))⟩), (kp f3), (kp f4), (kp f5)⟩
    · obtain rfl := Option.some.inj ho
      have g1 := f1 (hd ⟨1, .data⟩ (by simp) rfl)
      subst g1
      refine wpOp_step rfl (fun K' hK => ?_)
      go_simp
      refine (CALL.out ww I0).mono ?_
      rintro e w' ⟨v1, rfl, oi, b5⟩
      obtain ⟨K, q, e8, -⟩ := oi.form
      rw [HP.out] at e8
      subst e8
      have hsz := I0.size
      refine hK _ _ ?_
      exact ⟨_, _, _, _, _, rfl, (I0.trans (b5.mono I0.size)), (fun h => upd_mono (I1 (upd_ne h (by decide)))), (fun h => upd_mono (I2 (upd_ne h (by decide)))), (fun h => upd_mono (I3 (upd_ne h (by decide)))), (kp f0), (kp f1), (fun _ => ⟨K, q, rfl, OwnFI.of hsz oi (fun g5 hl e => by
        obtain ⟨g6, z0, z1, z2, e', hg5, hz⟩ := f4 (by rw [upd_other (by decide)] at hl; exact hl)
        rw [e'] at e
        injection e with e
        injection e with e
        injection e with e
        rw [← e]
        exact hz.lt)⟩), (fun h => absurd (I2 (upd_ne h (by decide))) (by rw [hL]; decide)), (fun h => by
        obtain ⟨g5, z0, z1, z2, e, hg5, hz⟩ := f4 (upd_ne h (by decide))
        exact ⟨g5, z0, z1, z2, e, hg5, hz.keep b5 hz.lt⟩), (fun h => absurd (I2 (I3 (upd_ne h (by decide)))) (by rw [hL]; decide))⟩
    · obtain rfl := Option.some.inj ho
      have g0 := f0 (hd ⟨0, .data⟩ (by simp) rfl)
      have g2 := f2 (hd ⟨2, .data⟩ (by simp) rfl)
      subst g0
      obtain ⟨K, q, rfl, o2⟩ := g2
      refine wpOp_step rfl (fun K' hK => ?_)
      go_simp
      refine hK _ _ ?_
      exact ⟨_, _, _, _, _, rfl, (I0), (fun h => upd_mono (I1 (upd_ne h (by decide)))), (fun _ => upd_mono (hd ⟨2, .data⟩ (by simp) rfl)), (fun h => upd_mono (I3 (upd_ne h (by decide)))), (kp f0), (kp f1), (fun _ => ⟨K, q, rfl, o2.eq (upd_other (by decide))⟩), (fun _ => ⟨K, q, rfl, rfl⟩), (kp f4), (kp f5)⟩
    · obtain rfl := Option.some.inj ho
      refine wpOp_step rfl (fun K' hK => ?_)
      go_simp
      refine hK _ _ ?_
      exact ⟨_, _, _, _, _, rfl, (I0.alloc I0.size _), (fun _ => upd_self), (fun h => upd_mono (I2 (upd_ne h (by decide)))), (fun h => upd_mono (I3 (upd_ne h (by decide)))), (kp f0), (kp f1), (fun h => by
        obtain ⟨K, q, e, oo⟩ := f2 (upd_ne h (by decide))
        exact ⟨K, q, e, oo.alloc _⟩), (kp f3), (fun _ => ⟨ww.heap.size, _, _, _, rfl, I0.size, Rw.new _ _ _⟩), (fun h => absurd (I1 (upd_ne h (by decide))) (by rw [hL]; decide))⟩
    · obtain rfl := Option.some.inj ho
      have g3 := f3 (hd ⟨3, .data⟩ (by simp) rfl)
      have g4 := f4 (hd ⟨4, .data⟩ (by simp) rfl)
      have HL4 := Lib.hid (hd ⟨4, .data⟩ (by simp) rfl)
      have HL3 := Lib.hid (hd ⟨3, .data⟩ (by simp) rfl)
      obtain ⟨K, q, rfl, rfl⟩ := g3
      obtain ⟨g5, z0, z1, z2, rfl, hg5, hz⟩ := g4
      obtain ⟨K6, q6, e6, o2⟩ := f2 (I2 HL3.out)
      simp at e6
      obtain ⟨rfl, rfl⟩ := e6
      have u0 := hz.cell 0
      have v0 := hz.frozen 0
      have u1 := hz.cell 1
      have v1 := hz.frozen 1
      have u2 := hz.cell 2
      have v2 := hz.frozen 2
      simp at u0 u1 u2
      refine wpOp_step rfl (fun K' hK => ?_)
      go_simp
      refine hK _ _ ?_
      exact ⟨_, _, _, _, _, rfl, (((I0.setCell (p := ⟨g5, 0, none⟩) hg5 _).setCell (p := ⟨g5, 1, none⟩) hg5 _).setCell (p := ⟨g5, 2, none⟩) hg5 _), (fun _ => upd_mono HL4.out), (fun h => upd_mono (I2 (upd_ne h (by decide)))), (fun _ => upd_mono HL3.out), (kp f0), (kp f1), (fun h => ⟨_, _, rfl, (o2.put HL4.out _ _ _).eq (upd_other (by decide))⟩), (fun h => ⟨_, _, rfl, rfl⟩), (fun h => ⟨_, _, _, _, rfl, hg5, ((hz.put 0 _).put 1 _).put 2 _⟩), (fun _ => ⟨_, _, _, rfl, hg5, ((hz.put 0 _).put 1 _).put 2 _, (o2.put HL4.out _ _ _).1, o2.2 _ HL4.out rfl⟩)⟩
  case hdone =>
    rintro L ac ww hall ⟨t6, t11, t12, t13, t14, rfl, I0, I1, I2, I3, f0, f1, f2, f3, f4, f5⟩
    have e0 := f0 (hall 0 (by decide))
    have e1 := f1 (hall 1 (by decide))
    have e2 := f2 (hall 2 (by decide))
    have e3 := f3 (hall 3 (by decide))
    have e4 := f4 (hall 4 (by decide))
    have e5 := f5 (hall 5 (by decide))
    clear f0 f1 f2 f3 f4 f5
    obtain ⟨b, K, q, rfl, hg5, hz, oc, hap⟩ := e5
    have hsz := I0.size
    have hold2 := g2.size
    have S : CtSt w ww gr (N + 700) b A nn c R m d K p q hh ll :=
      ⟨(HF2.more (lo' := w.heap.size + 1) (Nat.le_refl _)).x hsz (fun j hj hk => I0.block j hk) (fun j e => by
        rcases e with e | e
        · omega
        · exact (World.ownsRow.lt oc j e).1), oc.base (by omega), hap, hz, r2.keep I0 r2.lt, hr2.below I0 hr2.lt, grown_below g2 (I0.mono (by omega)), by omega, hgl, hsm, HLEN.out, hc1, hc2⟩
    obtain ⟨t11, ht11⟩ : ∃ t11, t11 = t11 := ⟨Value.bool true, rfl⟩
    clear e0 e1 e2 e3 e4 I0 I1 I2 I3 oc hap hz HF2 r2 hr2 g2 x0 x1 hbl CALL hs1 hc1 hc2 hsm z2 HLEN HP hg5 hsz hold2 ht11 t11
    clear hall
    go_upto_region 3 with fail
    go_wp2_with fail
    refine (pick_any _ _ _ _ S.rd (by omega) (by omega)).mono ?_
    rintro e w3 ⟨x1, rfl, ax1, cx1, hrx1, gx1⟩
    replace S := S.pick hrx1 gx1
    have cx1' : x1 < 2 := by omega
    clear cx1 hrx1 gx1
    go_upto_if 17 with fail
    go_cut [] from 8 (fun wc => ∃ (A : Option Addr) (nn c : Nat) (R : Option Addr) (m d : Nat) (K : Option Addr) (p q : Nat) (hh : Hp) (ll : List Int), CtSt w wc gr (N + 1400) b A nn c R m d K p q hh ll)
    case first =>
      by_cases hx : x1 = 0
      · subst hx
        go_wp2_with fail
        refine (l20Program_zero gr _ _ S.rd (by omega)).mono ?_
        rintro e w4 ⟨v, l, rfl, om, hok, hr4, g4⟩
        obtain ⟨A0, c0, rfl, -⟩ := om.form
        have hl40 := (Hps.okCms_iff.1 hok).2
        have rm := om.reads
        replace S := S.pick hr4 g4
        obtain ⟨ok1, -, -⟩ := Hps.run_same hok
        obtain ⟨okv, okl⟩ := Hps.okCt_iff.1 ok1
        have HSM := Lib.hid (small_valid okv)
        have HSL := Lib.hid (show (Hps.runCt l).2.length ≤ 41 by rw [okl, Hps.counts_len]; exact HSM.out.1)
        clear hok ok1 okv okl om hr4 g4
        go_wp2_with fail
        refine (mRunCounted_any A0 l.length c0 l _ rm (by omega)).mono ?_
        rintro e w5 ⟨vc, vr, vk, rfl, oc, b5⟩
        obtain ⟨A6, n6, c6, R6, m6, d6, K6, p6, q6, rfl, rfl, rfl⟩ := oc.slices
        have SN := Lib.hid ((S.next b5 oc HSM.out HSL.out).more (N' := N + 1400) (by omega))
        have q5 := S.box.keep b5 S.box.lt
        have u0 := q5.cell 0
        have u1 := q5.cell 1
        have u2 := q5.cell 2
        have v0 := q5.frozen 0
        have v1 := q5.frozen 1
        have v2 := q5.frozen 2
        simp at u0 u1 u2
        clear S q5 oc b5 rm HSM HSL
        go_wp2_with fail
        go_meet
        case rel => exact ⟨_, _, _, _, _, _, _, _, _, _, _, SN.out⟩
      · have hx' : (x1 == 0) = false := by rw [beq_eq_false_iff_ne]; exact hx
        clear hx
        go_wp2_with fail
        go_meet
        case rel => exact ⟨_, _, _, _, _, _, _, _, _, _, _, S.more (by omega)⟩
    case rest =>
    clear S A nn c R m d K p q hh ll ax1 cx1' w3
    obtain ⟨A, nn, c, R, m, d, K, p, q, hh, ll, S⟩ := hcut
    go_upto_region 5 with fail
    go_cut [29] from 8 (fun v wc => ∃ bb, v = .bool bb ∧ Hid (bb = true → 0 < p) ∧ CtSt w wc gr (N + 1401) b A nn c R m d K p q hh ll)
    case first =>
      have u0 : wc.cell? ⟨b, 0, none⟩ = some (.slice A nn c) := S.box.cell 0
      have u1 : wc.cell? ⟨b, 1, none⟩ = some (.slice R m d) := S.box.cell 1
      have u2 : wc.cell? ⟨b, 2, none⟩ = some (.slice K p q) := S.box.cell 2
      by_cases hp : 0 < p
      · have hp' : (0 : Int) < p := by omega
        go_wp2_with fail
        refine (odd_any _ _ _ _ S.rd (by omega) hn1 (by omega)).mono ?_
        rintro e w4 ⟨bb, rfl, hr4, g4⟩
        have SN := Lib.hid ((S.pick hr4 g4).more (N' := N + 1401) (by omega))
        have HPP := Lib.hid hp
        clear hr4 g4 S u0 u1 u2
        go_wp2_with fail
        go_meet
        case rel => exact ⟨bb, by first | rfl | simp, Lib.hid (fun _ => HPP.out), SN.out⟩
      · have hp0 : p = 0 := by omega
        have SN := Lib.hid (S.more (N' := N + 1401) (by omega))
        subst hp0
        clear S
        go_wp2_with fail
        go_meet
        case rel => exact ⟨false, by first | rfl | simp, Lib.hid (fun h => absurd h (by decide)), by first | exact SN.out | exact SN.out.drew⟩
    case rest =>
    clear S
    obtain ⟨bb, rfl, HPB, S⟩ := hcut
    go_upto_if 29 with fail
    go_cut [] from 7 (fun wc => ∃ (A : Option Addr) (nn c : Nat) (R : Option Addr) (m d : Nat) (K : Option Addr) (p q : Nat) (hh : Hp) (ll : List Int), CtEnd w wc gr (N + 1500) b A nn c R m d K p q hh ll)
    case first =>
      cases bb
      · go_wp2_with fail
        go_meet
        case rel => exact ⟨_, _, _, _, _, _, _, _, _, _, _, (S.more (by omega)).fin⟩
      · have hp := HPB.out rfl
        obtain ⟨p, rfl⟩ : ∃ p', p = p' + 1 := ⟨p - 1, by omega⟩
        obtain ⟨g, rfl⟩ : ∃ g, K = some ⟨g, 0, none⟩ := by
          obtain ⟨A1, c1, e, h1⟩ := S.cnts.form
          injection e with e1 e2 e3
          obtain ⟨g, e4, -, -⟩ := h1 (by omega)
          exact ⟨g, e1.trans e4⟩
        have hlen := S.cnts.cap.1
        have hl41 := S.len
        clear HPB hp
        go_wp2_with fail
        refine (pick_any _ _ _ _ S.rd (by omega) (by omega)).mono ?_
        rintro e w4 ⟨x2, rfl, ax2, cx2, hrx2, gx2⟩
        replace S := S.pick hrx2 gx2
        have cx2' : x2 < 2 := by omega
        clear cx2 hrx2 gx2
        have u2 : w4.cell? ⟨b, 2, none⟩ = some (.slice (some ⟨g, 0, none⟩) (p + 1) q) := S.box.cell 2
        by_cases hx : x2 = 0
        · subst hx
          go_wp2_with fail
          refine (pick_any _ _ _ _ S.rd (by omega) (by omega)).mono ?_
          rintro e w5 ⟨x3, rfl, ax3, cx3, hrx3, gx3⟩
          replace S := S.pick hrx3 gx3
          have cx3' : x3 < (p + 1 : Nat) := by omega
          clear cx3 hrx3 gx3 u2
          obtain ⟨k, rfl⟩ := Int.eq_ofNat_of_zero_le ax3
          have hk : k < p + 1 := by omega
          have u2 : w5.cell? ⟨b, 2, none⟩ = some (.slice (some ⟨g, 0, none⟩) (p + 1) q) := S.box.cell 2
          obtain ⟨y, hy⟩ : ∃ y, ll[k]? = some y := ⟨_, List.getElem?_eq_getElem (by omega)⟩
          have c0 : w5.cell? ⟨g, k, none⟩ = some (.int .i64 y) := by
            obtain ⟨g', o', x', e1, hg', hx', c'⟩ := S.cnts.reads.at_ hk
            injection e1 with e1
            injection e1 with e1 e2
            subst e1
            subst e2
            rw [hy] at hx'
            obtain rfl := Option.some.inj hx'
            rwa [Nat.zero_add] at c'
          have fz : w5.frozen? ⟨g, k, none⟩ = false := S.cnts.frozen hlen.symm k
          have SN0 := Lib.hid S
          have hk3 : (k : Int) < (p : Int) + 1 := by omega
          clear hy S ax3 cx3' hlen hl41
          go_upto_region 8 with fail
          go_still_tail 9, (by kernel_rfl)
          change wpList _ _ _ _ _ w5.drew
          have SD := Lib.hid (fun x => ((SN0.out.drew).put (i := k) x).more (N' := N + 1500) (by omega))
          have cd : w5.drew.cell? ⟨g, k, none⟩ = some (.int .i64 y) := c0
          have fd : w5.drew.frozen? ⟨g, k, none⟩ = false := fz
          generalize w5.drew = w6 at SD cd fd ⊢
          clear c0 fz u2
          go_wp2_with fail
          go_meet
          case rel => exact ⟨_, _, _, _, _, _, _, _, _, _, _, (SD.out _).fin⟩
        · have hx' : (x2 == 0) = false := by rw [beq_eq_false_iff_ne]; exact hx
          have f2 : w4.frozen? ⟨b, 2, none⟩ = false := S.box.frozen 2
          have hcq := S.cnts.cap.2
          clear hx hlen hl41
          by_cases hq1 : q = 1
          · subst hq1
            obtain rfl : p = 0 := by omega
            have SC := Lib.hid (S.more (N' := N + 1500) (by omega)).cut1
            clear S
            go_wp2_with fail
            go_meet
            case rel => exact ⟨_, _, _, _, _, _, _, _, _, _, _, SC.out⟩
          · have SC := Lib.hid (S.more (N' := N + 1500) (by omega)).cut
            clear S
            go_wp2_with fail
            go_meet
            case rel => exact ⟨_, _, _, _, _, _, _, _, _, _, _, SC.out⟩
    case rest =>
    clear S A nn c R m d K p q hh ll HPB
    obtain ⟨A, nn, c, R, m, d, K, p, q, hh, ll, S⟩ := hcut
    have u0 : wc.cell? ⟨b, 0, none⟩ = some (.slice A nn c) := S.box.cell 0
    have u1 : wc.cell? ⟨b, 1, none⟩ = some (.slice R m d) := S.box.cell 1
    have u2 : wc.cell? ⟨b, 2, none⟩ = some (.slice K p q) := S.box.cell 2
    have r2 : wc.frozen? ⟨w.heap.size, 0, none⟩ = false := S.res.frozen 0
    have r3 : wc.frozen? ⟨w.heap.size, 1, none⟩ = false := S.res.frozen 1
    have r4 : wc.frozen? ⟨w.heap.size, 2, none⟩ = false := S.res.frozen 2
    have r5 : wc.cell? ⟨w.heap.size, 0, none⟩ = some (.slice none 0 0) := S.res.cell 0
    have r6 : wc.cell? ⟨w.heap.size, 1, none⟩ = some (.slice none 0 0) := S.res.cell 1
    have r7 : wc.cell? ⟨w.heap.size, 2, none⟩ = some (.slice none 0 0) := S.res.cell 2
    have q4 := ((S.res.put 0 (.slice A nn c)).put 1 (.slice R m d)).put 2 (.slice K p q)
    have hBF : Below w.heap.size wc (((wc.setCell ⟨w.heap.size, 0, none⟩ (.slice A nn c)).setCell ⟨w.heap.size, 1, none⟩ (.slice R m d)).setCell ⟨w.heap.size, 2, none⟩ (.slice K p q)) := (((Below.refl _ _).setCell (p := ⟨w.heap.size, 0, none⟩) (Nat.le_refl _) _).setCell (p := ⟨w.heap.size, 1, none⟩) (Nat.le_refl _) _).setCell (p := ⟨w.heap.size, 2, none⟩) (Nat.le_refl _) _
    have hCF : CF (((wc.setCell ⟨w.heap.size, 0, none⟩ (.slice A nn c)).setCell ⟨w.heap.size, 1, none⟩ (.slice R m d)).setCell ⟨w.heap.size, 2, none⟩ (.slice K p q)) w.heap.size A nn R m K p hh ll := fun w' h1 h2 => S.all w' (by simpa using h1) fun j hj hk => (h2 j (by omega) (by simpa using hk)).trans (by
      rw [Below.heap_setCell _ _ _ _ (by show j ≠ w.heap.size; omega), Below.heap_setCell _ _ _ _ (by show j ≠ w.heap.size; omega), Below.heap_setCell _ _ _ _ (by show j ≠ w.heap.size; omega)])
    have D := Lib.hid (And.intro hCF (And.intro S.small (And.intro S.len (And.intro ((S.rd.below hBF S.old).more (N' := N + 2000) (by omega)) (grown_below S.grown hBF)))))
    have hcaps := S.caps
    have s8 : (((wc.setCell ⟨w.heap.size, 0, none⟩ (.slice A nn c)).setCell ⟨w.heap.size, 1, none⟩ (.slice R m d)).setCell ⟨w.heap.size, 2, none⟩ (.slice K p q)).cell? ⟨w.heap.size, 0, none⟩ = some (.slice A nn c) := q4.cell 0
    have s9 : (((wc.setCell ⟨w.heap.size, 0, none⟩ (.slice A nn c)).setCell ⟨w.heap.size, 1, none⟩ (.slice R m d)).setCell ⟨w.heap.size, 2, none⟩ (.slice K p q)).cell? ⟨w.heap.size, 1, none⟩ = some (.slice R m d) := q4.cell 1
    have s10 : (((wc.setCell ⟨w.heap.size, 0, none⟩ (.slice A nn c)).setCell ⟨w.heap.size, 1, none⟩ (.slice R m d)).setCell ⟨w.heap.size, 2, none⟩ (.slice K p q)).cell? ⟨w.heap.size, 2, none⟩ = some (.slice K p q) := q4.cell 2
    clear q4 hBF hCF S
    go_wp2_with fail
    exact bodyPost_ret (v := ctV A nn c R m d K p q) (by simp [results, Tryd.results56, go_sem, *]) rfl ⟨A, nn, c, R, m, d, K, p, q, hh, ll, rfl, hcaps.1, hcaps.2.1, hcaps.2.2, D.out.1, D.out.2.1, D.out.2.2.1, D.out.2.2.2.1, D.out.2.2.2.2⟩
end Go.Proofs.YtfgdenmlfloloaaDoor

namespace Go.Proofs.YtfgdenmlfloloaaDoor
open Go.RowKit
set_option maxRecDepth 100000
/-- and an instruction -/
def DrawnCN (w : World) (e : Ending) (w' : World) : Prop :=
  ∃ (A : Option Addr) (nn c : Nat) (R : Option Addr) (m d : Nat) (K : Option Addr) (p q : Nat) (h : Hp) (l : List Int) (o : Cm), e = .returned (.tuple #[ctV A nn c R m d K p q, cmV o]) ∧ nn ≤ c ∧ m ≤ d ∧ p ≤ q ∧ HS w' w'.heap.size A nn R m h ∧ IS w' w'.heap.size K p l ∧ SmallH h ∧ l.length ≤ 41 ∧ SmallCm o ∧ Below w.heap.size w w'
theorem CF.at_ {w w1 : World} {lo nn m p : Nat} {A R K : Option Addr} {h : Hp} {l : List Int} (H : CF w lo A nn R m K p h l) (hs : w.heap.size ≤ w1.heap.size) (hb : ∀ j, lo ≤ j → j < w.heap.size → w1.heap[j]? = w.heap[j]?) : HS w1 w1.heap.size A nn R m h ∧ IS w1 w1.heap.size K p l := H w1 hs hb
set_option maxHeartbeats 4000000 in
theorem drawStepCounted_any (A : Option Addr) (n c : Nat) (w : World) (h : Bytes w w.heap.size A n) (hc : n ≤ c) (hn : n ≤ 9223372036854775807) :
    Calls Tryd.prog 15 #[.slice A n c] w (DrawnCN w) := by
  have b0 : Below w.heap.size w ((w.alloc (.cells #[.slice none 0 0, .slice none 0 0, .slice none 0 0] 34)).alloc (.cells #[.int .i64 0, .int .i64 0, .int .i64 0, .int .i64 0] 36)) := ((Below.refl _ _).alloc (Nat.le_refl _) _).alloc (by simp) _
  have r2 := (Rw.new w 34 #[.slice none 0 0, .slice none 0 0, .slice none 0 0]).alloc (.cells #[.int .i64 0, .int .i64 0, .int .i64 0, .int .i64 0] 36)
  have r3 := Rw.new (w.alloc (.cells #[.slice none 0 0, .slice none 0 0, .slice none 0 0] 34)) 36 #[.int .i64 0, .int .i64 0, .int .i64 0, .int .i64 0]
  have hz : ((w.alloc (.cells #[.slice none 0 0, .slice none 0 0, .slice none 0 0] 34)).alloc (.cells #[.int .i64 0, .int .i64 0, .int .i64 0, .int .i64 0] 36)).heap.size = w.heap.size + 2 := by simp
  rw [World.size_alloc] at r3
  have h0 := (h.keep fun p hp => b0.cell hp).more b0.size
  go_enter Tryd.func15, Tryd.ntmps15
  go_upto_region 1 with fail
  generalize ((w.alloc (.cells #[.slice none 0 0, .slice none 0 0, .slice none 0 0] 34)).alloc (.cells #[.int .i64 0, .int .i64 0, .int .i64 0, .int .i64 0] 36)) = w0 at b0 r2 r3 hz h0 ⊢
  go_wp2_with fail
  refine (open_any _ _ _ _ h0 hc hn).mono ?_
  rintro e w1 ⟨rfl, hr1, b1⟩
  have hs0 := b0.size
  have bb1 := b0.trans (b1.mono b0.size)
  have hs1 := b1.size
  replace r2 := r2.keep b1 r2.lt
  replace r3 := r3.keep b1 r3.lt
  rw [hz] at hr1
  have hgl1 := hr1.lt
  clear b0 h0
  go_wp2_with fail
  refine (l20Counted_any _ _ 20 _ hr1 (by omega) (by omega) (by omega)).mono ?_
  rintro e w2 ⟨A2, nn, c2, R2, m, d2, K2, p, q, hh, ll, rfl, hc1, hc2, hc3, HFx, hsm, hll, hr2, g2⟩
  replace r2 := (r2.far g2 (fun e => by have := Option.some.inj e; omega)).alloc (.cells #[.slice A2 nn c2, .slice R2 m d2, .slice K2 p q] 34)
  replace r3 := (r3.far g2 (fun e => by have := Option.some.inj e; omega)).alloc (.cells #[.slice A2 nn c2, .slice R2 m d2, .slice K2 p q] 34)
  have bA : Below w2.heap.size w2 (w2.alloc (.cells #[.slice A2 nn c2, .slice R2 m d2, .slice K2 p q] 34)) := (Below.refl _ _).alloc (Nat.le_refl _) _
  have q1 := Rw.new w2 34 #[.slice A2 nn c2, .slice R2 m d2, .slice K2 p q]
  have bb2 : Below w.heap.size w w2 := bb1.grown g2 bb1.size (fun k hk => by injection hk; omega)
  have bb3 := bb2.trans (bA.mono bb2.size)
  have hr3 := hr2.below bA hr2.lt
  have hs2 := g2.size
  have HCF := Lib.hid (fun (w9 : World) (h1 : (w2.alloc (.cells #[.slice A2 nn c2, .slice R2 m d2, .slice K2 p q] 34)).heap.size ≤ w9.heap.size) (h2 : ∀ j, w1.heap.size ≤ j → j < (w2.alloc (.cells #[.slice A2 nn c2, .slice R2 m d2, .slice K2 p q] 34)).heap.size → w9.heap[j]? = (w2.alloc (.cells #[.slice A2 nn c2, .slice R2 m d2, .slice K2 p q] 34)).heap[j]?) => HFx.at_ (w1 := w9) (Nat.le_trans bA.size h1) (fun j hj hk => (h2 j hj (Nat.lt_of_lt_of_le hk bA.size)).trans (bA.block j hk)))
  have hgl := hr2.lt
  clear bA g2 hr2 bb1 bb2 b1 hr1 HFx h
  go_upto_region 3 with fail
  generalize w2.alloc (.cells #[.slice A2 nn c2, .slice R2 m d2, .slice K2 p q] 34) = w3 at r2 r3 q1 bb3 hr3 HCF ⊢
  have hbq : w1.heap.size ≤ w2.heap.size := hs2
  generalize w2.heap.size = b at q1 hbq hs2 hgl ⊢
  obtain ⟨G, hG⟩ : ∃ G, w.heap.size = G := ⟨_, rfl⟩
  have hG0 : G + 2 ≤ w1.heap.size := by omega
  have HGe := Lib.hid hG
  rw [hG] at r2 r3 bb3 hr3 hgl1 ⊢
  clear hG
  have x0 : w3.cell? ⟨b, 0, none⟩ = some (.slice A2 nn c2) := q1.cell 0
  have x1 : w3.cell? ⟨b, 1, none⟩ = some (.slice R2 m d2) := q1.cell 1
  have x2 : w3.cell? ⟨b, 2, none⟩ = some (.slice K2 p q) := q1.cell 2
  have hbl := q1.lt
  refine wp_region_inv (by kernel_rfl) (by kernel_rfl) (fun L ac ww => ∃ t10 t11 t12 : Value, ac = { tmps := #[Value.slice A n c, undef, Value.pointer (some { block := G, off := 0 }), Value.pointer (some { block := G + 1, off := 0 }), Value.pointer (some { block := G + 2, off := 0 }), Value.pointer (some { block := b, off := 0 }), Value.slice A n c, Value.pointer (some { block := G + 2, off := 0 }), Value.pointer (some { block := G + 2, off := 0 }), ctV A2 nn c2 R2 m d2 K2 p q, t10, t11, t12], defers := [] } ∧ (L 3 = false → w3.grownBy ww (some (G + 2))) ∧ (L 2 = false → L 3 = false → Rd ww (G + 2) (0 + 2000)) ∧ (L 0 = true → t10 = ctV A2 nn c2 R2 m d2 K2 p q) ∧ (L 1 = true → t11 = .pointer (some ⟨(G + 2), 0, none⟩)) ∧ (L 2 = true → ∃ o : Cm, t12 = cmV o ∧ SmallCm o) ∧ (L 3 = true → (L 0 = true ∧ L 2 = true) ∧ ∃ (wp : World) (o : Cm), t12 = cmV o ∧ SmallCm o ∧ w3.grownBy wp (some (G + 2)) ∧ ww = (if L 4 = true then (((((((((wp).setCell ⟨G, 0, none⟩ (.slice A2 nn c2)).setCell ⟨G, 1, none⟩ (.slice R2 m d2)).setCell ⟨G, 2, none⟩ (.slice K2 p q))).setCell ⟨G + 1, 0, none⟩ (.int .i64 o.op)).setCell ⟨G + 1, 1, none⟩ (.int .i64 o.a)).setCell ⟨G + 1, 2, none⟩ (.int .i64 o.b)).setCell ⟨G + 1, 3, none⟩ (.int .i64 o.c)) else ((((wp).setCell ⟨G, 0, none⟩ (.slice A2 nn c2)).setCell ⟨G, 1, none⟩ (.slice R2 m d2)).setCell ⟨G, 2, none⟩ (.slice K2 p q)))) ∧ (L 4 = true → ∀ q, q < 4 → L q = true)) ?h0 ?hstep ?hdone
  case h0 => exact ⟨_, _, _, rfl, fun _ => ⟨rfl, rfl, rfl, Nat.le_refl _, fun _ _ _ => rfl⟩, fun _ _ => hr3.below (Below.refl w3.heap.size w3).drew hr3.lt, (fun h => absurd h Bool.false_ne_true), (fun h => absurd h Bool.false_ne_true), (fun h => absurd h Bool.false_ne_true), (fun h => absurd h Bool.false_ne_true), (fun h => absurd h Bool.false_ne_true)⟩
  case hstep =>
    rintro L ac ww i o ho hL hd ⟨t10, t11, t12, rfl, I0, I1, f0, f1, f2, f3, f4⟩
    have hi : i < 5 := (Array.getElem?_eq_some_iff.1 ho).1
    obtain rfl | rfl | rfl | rfl | rfl : i = 0 ∨ i = 1 ∨ i = 2 ∨ i = 3 ∨ i = 4 := by omega
    · obtain rfl := Option.some.inj ho
      have hL3 : L 3 = false := by
        cases e : L 3
        · rfl
        · exact absurd ((f3 e).1.1) (by rw [hL]; decide)
      have J := I0 hL3
      have z0 : ww.cell? ⟨b, 0, none⟩ = some (.slice A2 nn c2) := J.cell x0 (by show some b ≠ some (G + 2); intro e; have := Option.some.inj e; omega)
      have z1 : ww.cell? ⟨b, 1, none⟩ = some (.slice R2 m d2) := J.cell x1 (by show some b ≠ some (G + 2); intro e; have := Option.some.inj e; omega)
      have z2 : ww.cell? ⟨b, 2, none⟩ = some (.slice K2 p q) := J.cell x2 (by show some b ≠ some (G + 2); intro e; have := Option.some.inj e; omega)
      refine wpOp_step rfl (fun K' hK => ?_)
      go_simp
      refine hK _ _ ?_
      exact ⟨_, _, _, rfl, (fun _ => J), (fun h h3 => I1 (by rw [upd_other (by decide)] at h; exact h) (by rw [upd_other (by decide)] at h3; exact h3)), (fun _ => rfl), (kp f1), (kp f2), (fun h => absurd hL3 (by rw [upd_ne h (by decide)]; decide)), (fun h => absurd (f4 (upd_ne h (by decide)) 0 (by decide)) (by rw [hL]; decide))⟩
    · obtain rfl := Option.some.inj ho
      refine wpOp_step rfl (fun K' hK => ?_)
      go_simp
      refine hK _ _ ?_
      exact ⟨_, _, _, rfl, (fun h => I0 (by rw [upd_other (by decide)] at h; exact h)), (fun h h3 => I1 (by rw [upd_other (by decide)] at h; exact h) (by rw [upd_other (by decide)] at h3; exact h3)), (kp f0), (fun _ => rfl), (kp f2), (fun h => by
        obtain ⟨⟨l0, l2⟩, wp, o, e1, e2, e3, e4⟩ := f3 (upd_ne h (by decide))
        exact ⟨⟨upd_mono l0, upd_mono l2⟩, wp, o, e1, e2, e3, by rw [upd_other (by decide)]; exact e4⟩), (fun h => absurd (f4 (upd_ne h (by decide)) 1 (by decide)) (by rw [hL]; decide))⟩
    · obtain rfl := Option.some.inj ho
      have g1 := f1 (hd ⟨1, .data⟩ (by simp) rfl)
      subst g1
      have hL3 : L 3 = false := by
        cases e : L 3
        · rfl
        · exact absurd ((f3 e).1.2) (by rw [hL]; decide)
      have J := I0 hL3
      refine wpOp_step rfl (fun K' hK => ?_)
      go_simp
      refine (l20Command_any _ _ 14 ww (I1 hL hL3) (by omega) (by omega) (by omega)).mono ?_
      rintro e w' ⟨o, rfl, -, hso, hr5, g5⟩
      refine hK _ _ ?_
      exact ⟨_, _, _, rfl, (fun _ => World.grownBy.trans J g5), (fun h => absurd h (by rw [upd_self]; decide)), (kp f0), (kp f1), (fun _ => ⟨o, rfl, hso⟩), (fun h => absurd hL3 (by rw [upd_ne h (by decide)]; decide)), (fun h => absurd (f4 (upd_ne h (by decide)) 2 (by decide)) (by rw [hL]; decide))⟩
    · obtain rfl := Option.some.inj ho
      have g0 := f0 (hd ⟨0, .data⟩ (by simp) rfl)
      subst g0
      have l02 : Hid (L 0 = true ∧ L 2 = true) := Lib.hid ⟨hd ⟨0, .data⟩ (by simp) rfl, hd ⟨2, .chain⟩ (by simp) rfl⟩
      have J := I0 hL
      obtain ⟨o, e12, hso⟩ := f2 l02.out.2
      subst e12
      have P := r2.far J (fun e => by have := Option.some.inj e; omega)
      have zf0 : ww.frozen? ⟨G, 0, none⟩ = false := P.frozen 0
      have zf1 : ww.frozen? ⟨G, 1, none⟩ = false := P.frozen 1
      have zf2 : ww.frozen? ⟨G, 2, none⟩ = false := P.frozen 2
      have zc0 : ww.cell? ⟨G, 0, none⟩ = some (.slice none 0 0) := P.cell 0
      have zc1 : ww.cell? ⟨G, 1, none⟩ = some (.slice none 0 0) := P.cell 1
      have zc2 : ww.cell? ⟨G, 2, none⟩ = some (.slice none 0 0) := P.cell 2
      refine wpOp_step rfl (fun K' hK => ?_)
      go_simp
      refine hK _ _ ?_
      exact ⟨_, _, _, rfl, (fun h => absurd h (by rw [upd_self]; decide)), (fun h => absurd l02.out.2 (by rw [upd_other (by decide)] at h; rw [h]; decide)), (kp f0), (kp f1), (fun _ => ⟨o, rfl, hso⟩), (fun _ => ⟨⟨upd_mono l02.out.1, upd_mono l02.out.2⟩, ww, o, rfl, hso, J, by
        rw [upd_other (by decide)]
        cases e : L 4
        · rw [if_neg (by decide)]
        · exact absurd (f4 e 3 (by decide)) (by rw [hL]; decide)⟩), (fun h => absurd (f4 (upd_ne h (by decide)) 3 (by decide)) (by rw [hL]; decide))⟩
    · obtain rfl := Option.some.inj ho
      have g2 := f2 (hd ⟨2, .data⟩ (by simp) rfl)
      have l3 := Lib.hid (hd ⟨3, .chain⟩ (by simp) rfl)
      obtain ⟨l02, wp, o, e12, hso, J, ew⟩ := f3 l3.out
      replace l02 := Lib.hid l02
      rw [hL, if_neg (by decide)] at ew
      subst ew
      subst e12
      have l1 : L 1 = true := hd ⟨1, .phase⟩ (by simp) rfl
      have lq := Lib.hid (show ∀ q, q < 4 → L q = true from fun q hq => by
        obtain rfl | rfl | rfl | rfl : q = 0 ∨ q = 1 ∨ q = 2 ∨ q = 3 := by omega
        · exact l02.out.1
        · exact l1
        · exact l02.out.2
        · exact l3.out)
      clear l1
      have P := ((Rw.far r3 J (fun e => by have := Option.some.inj e; omega)).other (g' := G) (by omega) (i := 0) (.slice A2 nn c2))
      replace P := (P.other (g' := G) (by omega) (i := 1) (.slice R2 m d2)).other (g' := G) (by omega) (i := 2) (.slice K2 p q)
      have zf0 : ((((wp).setCell ⟨G, 0, none⟩ (.slice A2 nn c2)).setCell ⟨G, 1, none⟩ (.slice R2 m d2)).setCell ⟨G, 2, none⟩ (.slice K2 p q)).frozen? ⟨G + 1, 0, none⟩ = false := P.frozen 0
      have zf1 : ((((wp).setCell ⟨G, 0, none⟩ (.slice A2 nn c2)).setCell ⟨G, 1, none⟩ (.slice R2 m d2)).setCell ⟨G, 2, none⟩ (.slice K2 p q)).frozen? ⟨G + 1, 1, none⟩ = false := P.frozen 1
      have zf2 : ((((wp).setCell ⟨G, 0, none⟩ (.slice A2 nn c2)).setCell ⟨G, 1, none⟩ (.slice R2 m d2)).setCell ⟨G, 2, none⟩ (.slice K2 p q)).frozen? ⟨G + 1, 2, none⟩ = false := P.frozen 2
      have zf3 : ((((wp).setCell ⟨G, 0, none⟩ (.slice A2 nn c2)).setCell ⟨G, 1, none⟩ (.slice R2 m d2)).setCell ⟨G, 2, none⟩ (.slice K2 p q)).frozen? ⟨G + 1, 3, none⟩ = false := P.frozen 3
      have zc0 : ((((wp).setCell ⟨G, 0, none⟩ (.slice A2 nn c2)).setCell ⟨G, 1, none⟩ (.slice R2 m d2)).setCell ⟨G, 2, none⟩ (.slice K2 p q)).cell? ⟨G + 1, 0, none⟩ = some (.int .i64 0) := P.cell 0
      have zc1 : ((((wp).setCell ⟨G, 0, none⟩ (.slice A2 nn c2)).setCell ⟨G, 1, none⟩ (.slice R2 m d2)).setCell ⟨G, 2, none⟩ (.slice K2 p q)).cell? ⟨G + 1, 1, none⟩ = some (.int .i64 0) := P.cell 1
      have zc2 : ((((wp).setCell ⟨G, 0, none⟩ (.slice A2 nn c2)).setCell ⟨G, 1, none⟩ (.slice R2 m d2)).setCell ⟨G, 2, none⟩ (.slice K2 p q)).cell? ⟨G + 1, 2, none⟩ = some (.int .i64 0) := P.cell 2
      have zc3 : ((((wp).setCell ⟨G, 0, none⟩ (.slice A2 nn c2)).setCell ⟨G, 1, none⟩ (.slice R2 m d2)).setCell ⟨G, 2, none⟩ (.slice K2 p q)).cell? ⟨G + 1, 3, none⟩ = some (.int .i64 0) := P.cell 3
      refine wpOp_step rfl (fun K' hK => ?_)
      go_simp
      refine hK _ _ ?_
      exact ⟨_, _, _, rfl, (fun h => absurd l3.out (by rw [upd_other (by decide)] at h; rw [h]; decide)), (fun h => absurd l02.out.2 (by rw [upd_other (by decide)] at h; rw [h]; decide)), (kp f0), (kp f1), (fun _ => ⟨o, rfl, hso⟩), (fun _ => ⟨⟨upd_mono l02.out.1, upd_mono l02.out.2⟩, wp, o, rfl, hso, J, by rw [upd_self, if_pos rfl]⟩), (fun _ q hq => upd_mono (lq.out q hq))⟩
  case hdone =>
    rintro L ac ww hall ⟨t10, t11, t12, rfl, I0, I1, f0, f1, f2, f3, f4⟩
    have e0 := f0 (hall 0 (by decide))
    have e1 := f1 (hall 1 (by decide))
    have e2 := f2 (hall 2 (by decide))
    have e3 := f3 (hall 3 (by decide))
    have e4 := f4 (hall 4 (by decide))
    clear f0 f1 f2 f3 f4
    obtain ⟨-, wp, o, rfl, hso, J, ew⟩ := e3
    rw [hall 4 (by decide), if_pos rfl] at ew
    subst ew
    have P2 := r2.far J (fun e => by have := Option.some.inj e; omega)
    have P3 := r3.far J (fun e => by have := Option.some.inj e; omega)
    have q2 := ((P2.put 0 (.slice A2 nn c2)).put 1 (.slice R2 m d2)).put 2 (.slice K2 p q)
    replace P3 := (P3.other (g' := G) (by omega) (i := 0) (.slice A2 nn c2)).other (g' := G) (by omega) (i := 1) (.slice R2 m d2)
    replace P3 := P3.other (g' := G) (by omega) (i := 2) (.slice K2 p q)
    have q3 := (((P3.put 0 (.int .i64 o.op)).put 1 (.int .i64 o.a)).put 2 (.int .i64 o.b)).put 3 (.int .i64 o.c)
    replace q2 := (((q2.other (g' := G + 1) (by omega) (i := 0) (.int .i64 o.op)).other (g' := G + 1) (by omega) (i := 1) (.int .i64 o.a)).other (g' := G + 1) (by omega) (i := 2) (.int .i64 o.b)).other (g' := G + 1) (by omega) (i := 3) (.int .i64 o.c)
    have s0 : (((((((((wp).setCell ⟨G, 0, none⟩ (.slice A2 nn c2)).setCell ⟨G, 1, none⟩ (.slice R2 m d2)).setCell ⟨G, 2, none⟩ (.slice K2 p q))).setCell ⟨G + 1, 0, none⟩ (.int .i64 o.op)).setCell ⟨G + 1, 1, none⟩ (.int .i64 o.a)).setCell ⟨G + 1, 2, none⟩ (.int .i64 o.b)).setCell ⟨G + 1, 3, none⟩ (.int .i64 o.c)).cell? ⟨G, 0, none⟩ = some (.slice A2 nn c2) := q2.cell 0
    have s1 : (((((((((wp).setCell ⟨G, 0, none⟩ (.slice A2 nn c2)).setCell ⟨G, 1, none⟩ (.slice R2 m d2)).setCell ⟨G, 2, none⟩ (.slice K2 p q))).setCell ⟨G + 1, 0, none⟩ (.int .i64 o.op)).setCell ⟨G + 1, 1, none⟩ (.int .i64 o.a)).setCell ⟨G + 1, 2, none⟩ (.int .i64 o.b)).setCell ⟨G + 1, 3, none⟩ (.int .i64 o.c)).cell? ⟨G, 1, none⟩ = some (.slice R2 m d2) := q2.cell 1
    have s2 : (((((((((wp).setCell ⟨G, 0, none⟩ (.slice A2 nn c2)).setCell ⟨G, 1, none⟩ (.slice R2 m d2)).setCell ⟨G, 2, none⟩ (.slice K2 p q))).setCell ⟨G + 1, 0, none⟩ (.int .i64 o.op)).setCell ⟨G + 1, 1, none⟩ (.int .i64 o.a)).setCell ⟨G + 1, 2, none⟩ (.int .i64 o.b)).setCell ⟨G + 1, 3, none⟩ (.int .i64 o.c)).cell? ⟨G, 2, none⟩ = some (.slice K2 p q) := q2.cell 2
    have s3 : (((((((((wp).setCell ⟨G, 0, none⟩ (.slice A2 nn c2)).setCell ⟨G, 1, none⟩ (.slice R2 m d2)).setCell ⟨G, 2, none⟩ (.slice K2 p q))).setCell ⟨G + 1, 0, none⟩ (.int .i64 o.op)).setCell ⟨G + 1, 1, none⟩ (.int .i64 o.a)).setCell ⟨G + 1, 2, none⟩ (.int .i64 o.b)).setCell ⟨G + 1, 3, none⟩ (.int .i64 o.c)).cell? ⟨G + 1, 0, none⟩ = some (.int .i64 o.op) := q3.cell 0
    have s4 : (((((((((wp).setCell ⟨G, 0, none⟩ (.slice A2 nn c2)).setCell ⟨G, 1, none⟩ (.slice R2 m d2)).setCell ⟨G, 2, none⟩ (.slice K2 p q))).setCell ⟨G + 1, 0, none⟩ (.int .i64 o.op)).setCell ⟨G + 1, 1, none⟩ (.int .i64 o.a)).setCell ⟨G + 1, 2, none⟩ (.int .i64 o.b)).setCell ⟨G + 1, 3, none⟩ (.int .i64 o.c)).cell? ⟨G + 1, 1, none⟩ = some (.int .i64 o.a) := q3.cell 1
    have s5 : (((((((((wp).setCell ⟨G, 0, none⟩ (.slice A2 nn c2)).setCell ⟨G, 1, none⟩ (.slice R2 m d2)).setCell ⟨G, 2, none⟩ (.slice K2 p q))).setCell ⟨G + 1, 0, none⟩ (.int .i64 o.op)).setCell ⟨G + 1, 1, none⟩ (.int .i64 o.a)).setCell ⟨G + 1, 2, none⟩ (.int .i64 o.b)).setCell ⟨G + 1, 3, none⟩ (.int .i64 o.c)).cell? ⟨G + 1, 2, none⟩ = some (.int .i64 o.b) := q3.cell 2
    have s6 : (((((((((wp).setCell ⟨G, 0, none⟩ (.slice A2 nn c2)).setCell ⟨G, 1, none⟩ (.slice R2 m d2)).setCell ⟨G, 2, none⟩ (.slice K2 p q))).setCell ⟨G + 1, 0, none⟩ (.int .i64 o.op)).setCell ⟨G + 1, 1, none⟩ (.int .i64 o.a)).setCell ⟨G + 1, 2, none⟩ (.int .i64 o.b)).setCell ⟨G + 1, 3, none⟩ (.int .i64 o.c)).cell? ⟨G + 1, 3, none⟩ = some (.int .i64 o.c) := q3.cell 3
    have hJ := J.size
    have bbp : Below G w wp := bb3.grown J (by have := bb3.size; omega) (fun k hk => by have := Option.some.inj hk; omega)
    have BF : Below G w (((((((((wp).setCell ⟨G, 0, none⟩ (.slice A2 nn c2)).setCell ⟨G, 1, none⟩ (.slice R2 m d2)).setCell ⟨G, 2, none⟩ (.slice K2 p q))).setCell ⟨G + 1, 0, none⟩ (.int .i64 o.op)).setCell ⟨G + 1, 1, none⟩ (.int .i64 o.a)).setCell ⟨G + 1, 2, none⟩ (.int .i64 o.b)).setCell ⟨G + 1, 3, none⟩ (.int .i64 o.c)) := (((((((bbp.setCell (p := ⟨G, 0, none⟩) (Nat.le_refl _) _).setCell (p := ⟨G, 1, none⟩) (Nat.le_refl _) _).setCell (p := ⟨G, 2, none⟩) (Nat.le_refl _) _).setCell (p := ⟨G + 1, 0, none⟩) (by show G ≤ G + 1; omega) _).setCell (p := ⟨G + 1, 1, none⟩) (by show G ≤ G + 1; omega) _).setCell (p := ⟨G + 1, 2, none⟩) (by show G ≤ G + 1; omega) _).setCell (p := ⟨G + 1, 3, none⟩) (by show G ≤ G + 1; omega) _)
    have D := Lib.hid (HCF.out (((((((((wp).setCell ⟨G, 0, none⟩ (.slice A2 nn c2)).setCell ⟨G, 1, none⟩ (.slice R2 m d2)).setCell ⟨G, 2, none⟩ (.slice K2 p q))).setCell ⟨G + 1, 0, none⟩ (.int .i64 o.op)).setCell ⟨G + 1, 1, none⟩ (.int .i64 o.a)).setCell ⟨G + 1, 2, none⟩ (.int .i64 o.b)).setCell ⟨G + 1, 3, none⟩ (.int .i64 o.c)) (by simpa using hJ) (fun j hj hk => by
      rw [Below.heap_setCell _ _ _ _ (by show j ≠ G + 1; omega), Below.heap_setCell _ _ _ _ (by show j ≠ G + 1; omega), Below.heap_setCell _ _ _ _ (by show j ≠ G + 1; omega), Below.heap_setCell _ _ _ _ (by show j ≠ G + 1; omega), Below.heap_setCell _ _ _ _ (by show j ≠ G; omega), Below.heap_setCell _ _ _ _ (by show j ≠ G; omega), Below.heap_setCell _ _ _ _ (by show j ≠ G; omega)]
      exact J.block j hk (fun e => by have := Option.some.inj e; omega)))
    clear I0 I1 e0 e1 e2 e4 hall J P2 P3 q2 q3 r2 r3 q1 HCF bbp
    go_wp2_with fail
    exact bodyPost_ret (v := .tuple #[ctV A2 nn c2 R2 m d2 K2 p q, cmV o]) (by simp [results, Tryd.results15, go_sem, *]) rfl ⟨A2, nn, c2, R2, m, d2, K2, p, q, hh, ll, o, rfl, hc1, hc2, hc3, D.out.1, D.out.2, hsm, hll, hso, by rw [HGe.out]; exact BF⟩
end Go.Proofs.YtfgdenmlfloloaaDoor

namespace Go.Proofs.YtfgdenmlfloloaaDoor
open Go.RowKit
set_option maxRecDepth 100000
/-- an append to a slice that begins at cell o of its block, where there is room -/
theorem run_append_room_off {P : Program} (w : World) (t ty e : TypeId) (i : TypeInfo) (ht : P.underlying t = some (.slice e)) (hi : P.info? e = some i)
    (g o sLen sCap : Nat) (cur : Array Value) (hg : w.heap[g]? = some (.cells cur e (0, 0)))
    (a : Addr) (m c : Nat) (news : List Value) (hl : news.length = m * i.size) (hnews : ∀ j u, news[j]? = some u → w.cell? (a.add j) = some u) (h1 : ∀ u ∈ news, u.oneCell' = true)
    (hroom : sLen + m ≤ sCap) (hfit : o + sLen * i.size + news.length ≤ cur.size) :
    (Builtin.append_ #[t, t] ty #[.slice (some ⟨g, o, none⟩) sLen sCap, .slice (some a) m c]).run P w =
      .ok (.slice (some ⟨g, o, none⟩) (sLen + m) sCap) (w.setRow g (cur.toList.take (o + sLen * i.size) ++ news ++ cur.toList.drop (o + sLen * i.size + news.length)).toArray) := by
  have hf := run_firstCells_some (P := P) w i.size m a m c news hl hnews
  have hst := run_storeCells_at P g (o + sLen * i.size) e news 0 cur w hg (by simpa using hfit) h1
  simp only [Nat.add_zero] at hst
  simp [Builtin.append_, run_underlying ht, sizeOf, typeInfo, hi, Builtin.lenOf, hroom, hf, add_lit, hst]
/-- the value v owns the numbers xs: a row that begins somewhere in a block, from block 'base' on -/
def OwnQ (w : World) (base : Nat) (v : Value) (xs : List Int) : Prop :=
  (v = .slice none 0 0 ∧ xs = []) ∨ ∃ g o cap cur, v = .slice (some ⟨g, o, none⟩) xs.length cap ∧ base ≤ g ∧ w.heap[g]? = some (.cells cur 3 (0, 0)) ∧ xs.length ≤ cap ∧ o + cap ≤ cur.size ∧ cap ≤ 9223372036854775807 ∧ ∀ (k : Nat) (u : Int), xs[k]? = some u → cur[o + k]? = some (.int .i64 u)
section
variable {w w' : World} {bs bs' B : Nat} {v : Value} {xs ys : List Int}
theorem OwnI.queue (h : OwnI w bs v xs) : OwnQ w bs v xs := by
  rcases h.2 with ⟨rfl, h0⟩ | ⟨g, cap, cur, rfl, hb, hh, hnc, hcap, hsz, hx⟩
  · exact .inl ⟨rfl, List.eq_nil_of_length_eq_zero h0⟩
  · refine .inr ⟨g, 0, cap, cur, rfl, hb, hh, hnc, by omega, by unfold maxLen at hcap; omega, fun k u hk => ?_⟩
    have h1 : (xs.map (Value.int .i64))[k]? = some (.int .i64 u) := by rw [List.getElem?_map, hk]; rfl
    rw [← hx, List.getElem?_take] at h1
    split at h1
    · rw [Nat.zero_add]; simpa using h1
    · cases h1
theorem OwnQ.lt (h : OwnQ w bs v xs) : ∀ k, v.ownBlock = some k → bs ≤ k ∧ k < w.heap.size := by
  intro k hk
  rcases h with ⟨rfl, _⟩ | ⟨g, o, cap, cur, rfl, hb, hh, _⟩
  · cases hk
  · obtain rfl : g = k := Option.some.inj hk
    exact ⟨hb, (Array.getElem?_eq_some_iff.1 hh).1⟩
theorem OwnQ.kept {row : Option Nat} (h : OwnQ w bs v xs) (hg : w.grownBy w' row) (hne : v.ownBlock = none ∨ v.ownBlock ≠ row) : OwnQ w' bs v xs := by
  rcases h with h0 | ⟨g, o, cap, cur, rfl, hb, hh, hr⟩
  · exact .inl h0
  · refine .inr ⟨g, o, cap, cur, rfl, hb, (hg.block g (Array.getElem?_eq_some_iff.1 hh).1 fun e => ?_).trans hh, hr⟩
    rcases hne with h1 | h1
    · cases h1
    · exact h1 e
theorem OwnQ.below (h : OwnQ w bs v xs) (hb : Below B w w') (hB : w.heap.size ≤ B) : OwnQ w' bs v xs := by
  rcases h with h0 | ⟨g, o, cap, cur, e, hb', hh, hr⟩
  · exact .inl h0
  · exact .inr ⟨g, o, cap, cur, e, hb', (hb.block g (Nat.lt_of_lt_of_le (Array.getElem?_eq_some_iff.1 hh).1 hB)).trans hh, hr⟩
theorem OwnQ.base (h : OwnQ w bs v xs) (hb : bs' ≤ bs) : OwnQ w bs' v xs := by
  rcases h with h0 | ⟨g, o, cap, cur, e, hb', hr⟩
  · exact .inl h0
  · exact .inr ⟨g, o, cap, cur, e, by omega, hr⟩
theorem OwnQ.form (h : OwnQ w bs v xs) : ∃ A c, v = .slice A xs.length c := by
  rcases h with ⟨rfl, rfl⟩ | ⟨g, o, cap, cur, rfl, _⟩
  · exact ⟨none, 0, rfl⟩
  · exact ⟨_, _, rfl⟩
/-- the first number, and what is left without it -/
theorem OwnQ.head {x : Int} (h : OwnQ w bs v (x :: xs)) : ∃ g o c, v = .slice (some ⟨g, o, none⟩) (xs.length + 1) c ∧ g < w.heap.size ∧ w.cell? ⟨g, o, none⟩ = some (.int .i64 x) ∧ xs.length + 1 ≤ c ∧ c ≤ 9223372036854775807 ∧ OwnQ w bs (if c = 1 then .slice (some ⟨g, o, none⟩) 0 0 else .slice (some ⟨g, o + 1, none⟩) xs.length (c - 1)) xs := by
  rcases h with ⟨_, h0⟩ | ⟨g, o, cap, cur, e, hb, hh, hnc, hsz, hcap, hc⟩
  · cases h0
  · refine ⟨g, o, cap, e, (Array.getElem?_eq_some_iff.1 hh).1, ?_, hnc, hcap, ?_⟩
    · have := hc 0 x rfl
      rw [Nat.add_zero] at this
      exact (cell_of_row w g o cur 3 (0, 0) hh).trans this
    · have hnc' : xs.length + 1 ≤ cap := hnc
      by_cases h1 : cap = 1
      · rw [if_pos h1]
        obtain rfl : xs = [] := List.eq_nil_of_length_eq_zero (by omega)
        exact .inr ⟨g, o, 0, cur, rfl, hb, hh, Nat.le_refl _, by omega, by omega, fun k u hk => by simp at hk⟩
      · rw [if_neg h1]
        refine .inr ⟨g, o + 1, cap - 1, cur, rfl, hb, hh, by omega, by omega, by omega, fun k u hk => ?_⟩
        have := hc (k + 1) u (by simpa using hk)
        rw [show o + 1 + k = o + (k + 1) by omega]
        exact this
end
theorem run_appendQ (w : World) (base : Nat) (v : Value) (xs : List Int) (hown : OwnQ w base v xs) (ag c : Nat) (y : Int) (hr : w.cell? ⟨ag, 0, none⟩ = some (.int .i64 y)) (hn : xs.length + 1 ≤ 1099511627776) (hbase : base ≤ w.heap.size) (ty : TypeId) :
    ∃ v' w', (Builtin.append_ #[24, 24] ty #[v, .slice (some ⟨ag, 0, none⟩) 1 c]).run Tryd.prog w = .ok v' w' ∧ OwnQ w' base v' (xs ++ [y]) ∧ w.grownBy w' v.ownBlock ∧ (v'.ownBlock = v.ownBlock ∨ v'.ownBlock = some w.heap.size) := by
  rcases hown with ⟨rfl, rfl⟩ | ⟨g, o, cap, cur, rfl, hbg, hg, hnc, hsz, hcap, hx⟩
  · obtain ⟨v', w', h1, h2, h3, h4⟩ := run_appendI w base (.slice none 0 0) [] (World.ownsRow_nil _ _ _ _) (some ⟨ag, 0, none⟩) 1 c (ag + 1) [y] ⟨rfl, fun _ => ⟨ag, 0, rfl, by omega, fun k b hk => by
      obtain rfl : k = 0 := by have := (List.getElem?_eq_some_iff.1 hk).1; simpa using this
      obtain rfl : y = b := by simpa using hk
      exact hr⟩⟩ hn hbase ty
    exact ⟨v', w', h1, h2.queue, h3, h4⟩
  · obtain ⟨i0, hi0, hz0, hz1, hz2⟩ := info_parts info_int
    have hnews : ∀ (j : Nat) (u : Value), [Value.int .i64 y][j]? = some u → w.cell? ((⟨ag, 0, none⟩ : Addr).add j) = some u := by
      intro j u hj
      cases j with
      | zero =>
        obtain rfl : Value.int .i64 y = u := by simpa using hj
        rw [Addr.add_zero']
        exact hr
      | succ j => simp at hj
    have hgt : g < w.heap.size := (Array.getElem?_eq_some_iff.1 hg).1
    by_cases hroom : xs.length + 1 ≤ cap
    · have hrun := run_append_room_off (P := Tryd.prog) w 24 ty 3 i0 Tryd.underlying24 hi0 g o xs.length cap cur hg ⟨ag, 0, none⟩ 1 c [.int .i64 y] (by simp [hz1]) hnews (by simp [Value.oneCell']) hroom (by rw [hz1]; simp; omega)
      rw [hz1, Nat.mul_one] at hrun
      refine ⟨_, _, hrun, .inr ⟨g, o, cap, _, by simp, hbg, setRow_heap w g cur _ 3 _ hg, by simpa using hroom, ?_, hcap, ?_⟩, ⟨rfl, rfl, rfl, by simp, fun k _ hk => setRow_other w g k _ (fun e => hk (by simp [Value.ownBlock, e]))⟩, .inl rfl⟩
      · simp only [List.size_toArray, List.length_append, List.length_take, List.length_drop, Array.length_toList, List.length_singleton]
        omega
      · intro k u hk
        simp only [List.getElem?_toArray]
        rcases Nat.lt_or_ge k xs.length with hlt | hge
        · rw [List.getElem?_append_left (by simp; omega), List.getElem?_append_left (by simp; omega), List.getElem?_take, if_pos (by omega)]
          rw [List.getElem?_append_left hlt] at hk
          simpa using hx k u hk
        · have hk1 : k = xs.length := by
            have := (List.getElem?_eq_some_iff.1 hk).1
            simp at this
            omega
          subst hk1
          rw [List.getElem?_append_right (Nat.le_refl _), Nat.sub_self] at hk
          obtain rfl : y = u := by simpa using hk
          rw [List.getElem?_append_left (by simp; omega), List.getElem?_append_right (by simp; omega), List.length_take, Nat.min_eq_left (by simp; omega), Nat.sub_self]
          rfl
    · have holds : ∀ (j : Nat) (u : Value), (xs.map (Value.int .i64))[j]? = some u → w.cell? ((⟨g, o, none⟩ : Addr).add j) = some u := by
        intro j u hj
        rw [add_lit, cell_of_row w g (o + j) cur 3 (0, 0) hg]
        rw [List.getElem?_map] at hj
        cases hq : xs[j]? with
        | none => rw [hq] at hj; cases hj
        | some b =>
          rw [hq] at hj
          rw [← Option.some.inj hj]
          exact hx j b hq
      have hrun := run_append_grow (P := Tryd.prog) w 24 ty 3 i0 _ Tryd.underlying24 hi0 hz0 ⟨g, o, none⟩ xs.length cap (xs.map (.int .i64)) (by simp [hz1]) holds ⟨ag, 0, none⟩ 1 c [.int .i64 y] (by simp [hz1]) hnews (by omega) (by omega) (growslice_fits (by omega) (by rw [hz2]; omega))
      refine ⟨_, _, hrun, ?_, ⟨rfl, rfl, rfl, by simp, fun k hk _ => heap_alloc_old w.drew _ hk⟩, .inr rfl⟩
      have hge := grownCap_ge w (xs.length + 1) cap 3
      refine .inr ⟨w.heap.size, 0, grownCap w (xs.length + 1) cap 3, _, by simp, hbase, heap_alloc_new w.drew _, by simpa using hge, ?_, ?_, ?_⟩
      · simp [size_zeroCells, Value.cells]
        omega
      · have := grownCap_le_maxLen w (xs.length + 1) cap 3 (by unfold maxLen; omega)
        unfold maxLen at this
        omega
      · intro k u hk
        rw [Nat.zero_add, Array.getElem?_append_left (by simp; have := (List.getElem?_eq_some_iff.1 hk).1; simpa using this)]
        rw [show (xs.map (Value.int .i64)).toArray ++ #[Value.int .i64 y] = (xs.map (Value.int .i64) ++ [Value.int .i64 y]).toArray by simp, List.getElem?_toArray, show xs.map (Value.int .i64) ++ [Value.int .i64 y] = (xs ++ [y]).map (Value.int .i64) by simp, List.getElem?_map, hk]
        rfl
theorem wpList_appendQ {w : World} {ops : Array Oper} {rest : List Oper} {o : Oper} {a : Act} {Q : Exit → Act → World → Prop} (hgd : o.guard = none) (s x : Operand)
    (ho : o.op = .call { callee := .builtin .append, args := #[s, x], argTypes := #[24, 24] })
    (base : Nat) (v : Value) (xs : List Int) (hs : a.eval s = v) (hown : OwnQ w base v xs) (ag c : Nat) (y : Int) (hx : a.eval x = .slice (some ⟨ag, 0, none⟩) 1 c) (hr : w.cell? ⟨ag, 0, none⟩ = some (.int .i64 y))
    (hn : xs.length + 1 ≤ 1099511627776) (hbase : base ≤ w.heap.size)
    (h : ∀ v' w', OwnQ w' base v' (xs ++ [y]) → w.grownBy w' v.ownBlock → (v'.ownBlock = v.ownBlock ∨ v'.ownBlock = some w.heap.size) → wpList Tryd.prog ops Q rest (a.put o.dst v') w') : wpList Tryd.prog ops Q (o :: rest) a w :=
  wpList_plain hgd fun _ hK => by
    obtain ⟨v', w', hrun, h2, h3, h4⟩ := run_appendQ w base v xs hown ag c y hr hn hbase o.type
    unfold Oper.wp execOp
    simp only [ho, resolve, invoke, builtin, Sem.run_bind, Sem.run_pure, Result.andThen_ok, List.map_toArray, List.map_cons, List.map_nil, hs, hx, hrun]
    exact hK _ _ (h v' w' h2 h3 h4)
end Go.Proofs.YtfgdenmlfloloaaDoor

namespace Go.Proofs.YtfgdenmlfloloaaDoor
open Go.RowKit
namespace Hps
/-- the numbers that are lost when the references rs are taken away from B ++ rs, one after the other -/
def lostF (B : List Int) : List Int → List Int
  | [] => []
  | t :: r => if t ≠ -1 ∧ t ∉ B ++ r then t :: lostF B r else lostF B r
theorem mem_lost {B : List Int} {x : Int} : ∀ {rs : List Int}, x ∈ lostF B rs ↔ x ∈ rs ∧ x ≠ -1 ∧ x ∉ B
  | [] => by simp [lostF]
  | t :: r => by
    rw [lostF]
    by_cases h : t ≠ -1 ∧ t ∉ B ++ r
    · rw [if_pos h, List.mem_cons, mem_lost, List.mem_cons]
      constructor
      · rintro (rfl | ⟨h1, h2, h3⟩)
        · exact ⟨.inl rfl, h.1, fun hb => h.2 (List.mem_append.2 (.inl hb))⟩
        · exact ⟨.inr h1, h2, h3⟩
      · rintro ⟨rfl | h1, h2, h3⟩
        · exact .inl rfl
        · exact .inr ⟨h1, h2, h3⟩
    · rw [if_neg h, mem_lost, List.mem_cons]
      constructor
      · rintro ⟨h1, h2, h3⟩
        exact ⟨.inr h1, h2, h3⟩
      · rintro ⟨rfl | h1, h2, h3⟩
        · refine ⟨?_, h2, h3⟩
          by_cases hr : x ∈ r
          · exact hr
          · exact absurd ⟨h2, fun hm => by rcases List.mem_append.1 hm with e | e; exact h3 e; exact hr e⟩ h
        · exact ⟨h1, h2, h3⟩
theorem lost_nodup (B : List Int) : ∀ rs : List Int, (lostF B rs).Nodup
  | [] => List.nodup_nil
  | t :: r => by
    rw [lostF]
    split
    · next h => exact List.nodup_cons.2 ⟨fun hm => h.2 (List.mem_append.2 (.inr (mem_lost.1 hm).1)), lost_nodup B r⟩
    · exact lost_nodup B r
theorem lost_len (B : List Int) : ∀ rs : List Int, (lostF B rs).length ≤ rs.length
  | [] => Nat.le_refl _
  | t :: r => by
    have := lost_len B r
    rw [lostF]
    split <;> simp <;> omega
theorem lost_none {B r : List Int} : lostF B (-1 :: r) = lostF B r := by rw [lostF, if_neg (by simp)]
theorem lost_yes {B r : List Int} {y : Nat} (h : (B ++ r).count (y : Int) = 0) : lostF B ((y : Int) :: r) = (y : Int) :: lostF B r := by
  rw [lostF, if_pos ⟨by omega, List.count_eq_zero.1 h⟩]
theorem lost_no {B r : List Int} {y : Nat} (h : (B ++ r).count (y : Int) ≠ 0) : lostF B ((y : Int) :: r) = lostF B r := by
  rw [lostF, if_neg]
  rintro ⟨_, h2⟩
  exact h (List.count_eq_zero.2 h2)
theorem cntN_neg1 {n : Nat} {B r : List Int} : cntN n (B ++ -1 :: r) = cntN n (B ++ r) := by
  unfold cntN
  apply List.map_congr_left
  intro k _
  rw [List.count_append, List.count_append, List.count_cons]
  have : ((-1 : Int) == (k : Int)) = false := by rw [beq_eq_false_iff_ne]; omega
  rw [this]
  simp
theorem count_cons_y {B r : List Int} {y : Nat} : (B ++ (y : Int) :: r).count (y : Int) = (B ++ r).count (y : Int) + 1 := by
  rw [List.count_append, List.count_append, List.count_cons]
  simp
  omega
theorem cntN_drop {n y : Nat} {B r : List Int} (h : y < n) : (cntN n (B ++ (y : Int) :: r)).set y (((B ++ r).count (y : Int) : Nat) : Int) = cntN n (B ++ r) := by
  apply List.ext_getElem?
  intro k
  rw [List.getElem?_set, cntN_len]
  rcases Nat.lt_or_ge k n with hk | hk
  · rw [cntN_at _ hk, cntN_at _ hk]
    by_cases e : y = k
    · subst e
      rw [if_pos rfl, if_pos h]
    · rw [if_neg e]
      have : ((y : Int) == (k : Int)) = false := by rw [beq_eq_false_iff_ne]; omega
      rw [List.count_append, List.count_append, List.count_cons, this]
      simp
  · rw [if_neg (by omega), List.getElem?_eq_none (by rw [cntN_len]; omega), List.getElem?_eq_none (by rw [cntN_len]; omega)]
/-- the used cells below n to which nothing leads, ascending -/
def idleL (h : Hp) (n : Nat) : List Int := ((List.range n).filter fun k => usedAt h.cs k && decide ((k : Int) ∉ refsOf h)).map fun (k : Nat) => (k : Int)
theorem idleL_yes {h : Hp} {k : Nat} (hu : usedAt h.cs k = true) (hm : (k : Int) ∉ refsOf h) : idleL h (k + 1) = idleL h k ++ [(k : Int)] := by
  simp [idleL, List.range_succ, hu, hm]
theorem idleL_no {h : Hp} {k : Nat} (hn : usedAt h.cs k = false ∨ (k : Int) ∈ refsOf h) : idleL h (k + 1) = idleL h k := by
  rcases hn with e | e <;> simp [idleL, List.range_succ, e]
theorem idleL_len (h : Hp) (n : Nat) : (idleL h n).length ≤ n := by
  unfold idleL
  rw [List.length_map]
  exact Nat.le_trans (List.length_filter_le _ _) (by simp)
/-- the queue holds the used cells to which nothing leads, each once -/
structure Waits (x : Hp) (Q : List Int) : Prop where
  nodup : Q.Nodup
  mem : ∀ t : Int, t ∈ Q ↔ ∃ k : Nat, t = k ∧ usedAt x.cs k = true ∧ (k : Int) ∉ refsOf x
theorem Waits.start (x : Hp) : Waits x (idleL x x.cs.length) := by
  refine ⟨?_, fun t => ?_⟩
  · unfold idleL
    unfold List.Nodup
    rw [List.pairwise_map]
    exact (List.nodup_range.filter _).imp fun h e => h (by omega)
  · unfold idleL
    simp only [List.mem_map, List.mem_filter, List.mem_range, Bool.and_eq_true, decide_eq_true_eq]
    constructor
    · rintro ⟨k, ⟨_, h2, h3⟩, rfl⟩
      exact ⟨k, rfl, h2, h3⟩
    · rintro ⟨k, rfl, h2, h3⟩
      exact ⟨k, ⟨usedAt_lt h2, h2, h3⟩, rfl⟩
theorem free_refs {x : Hp} {k : Nat} {c : Cl} (hc : x.cs[k]? = some c) (t : Int) : (refsOf x).count t = (refsOf (freeK x k) ++ c.r).count t := by
  have key : ∀ (cs : List Cl) (k : Nat), cs[k]? = some c → ((cs.map (·.r)).flatten).count t = (((cs.set k freeCl).map (·.r)).flatten).count t + c.r.count t := by
    intro cs
    induction cs with
    | nil => intro k h; simp at h
    | cons a cs ih =>
      intro k h
      cases k with
      | zero =>
        obtain rfl : a = c := by simpa using h
        simp [freeCl, List.count_append]
        omega
      | succ k =>
        have := ih k (by simpa using h)
        simp only [List.set_cons_succ, List.map_cons, List.flatten_cons, List.count_append]
        omega
  simp only [refsOf, freeK, List.count_append]
  have := key x.cs k hc
  omega
theorem free_mem {x : Hp} {k : Nat} {c : Cl} (hc : x.cs[k]? = some c) (t : Int) : t ∈ refsOf x ↔ t ∈ refsOf (freeK x k) ∨ t ∈ c.r := by
  have h := free_refs hc t
  rw [← List.count_pos_iff, h, List.count_pos_iff, List.mem_append]
theorem counts_free {x : Hp} {k : Nat} {c : Cl} (hc : x.cs[k]? = some c) : countsL x = cntN x.cs.length (refsOf (freeK x k) ++ c.r) := by
  rw [countsL_eq]
  unfold cntN
  exact List.map_congr_left fun j _ => by rw [free_refs hc]
theorem counts_freed (x : Hp) (k : Nat) : countsL (freeK x k) = cntN x.cs.length (refsOf (freeK x k)) := by
  rw [countsL_eq]
  simp [freeK]
theorem usedAt_is {cs : List Cl} {k : Nat} {c : Cl} (hc : cs[k]? = some c) : usedAt cs k = c.u := by rw [usedAt, hc]
theorem used_free {x : Hp} {k j : Nat} (hk : k < x.cs.length) : usedAt (freeK x k).cs j = (usedAt x.cs j && decide (j ≠ k)) := by
  unfold usedAt freeK
  simp only []
  by_cases e : j = k
  · subst e
    rw [List.getElem?_set_self hk]
    simp [freeCl]
  · rw [List.getElem?_set_ne (by omega)]
    simp [e]
theorem Waits.next {x : Hp} {k : Nat} {c : Cl} {Q : List Int} (hv : validH x = true) (h : Waits x ((k : Int) :: Q)) (hc : x.cs[k]? = some c) : Waits (freeK x k) (Q ++ lostF (refsOf (freeK x k)) c.r) := by
  have hk : k < x.cs.length := (List.getElem?_eq_some_iff.1 hc).1
  obtain ⟨hkQ, hQ⟩ := List.nodup_cons.1 h.nodup
  obtain ⟨k', ek, _, hkn⟩ := (h.mem k).1 (by simp)
  obtain rfl : k = k' := by omega
  have hr := okRefs_iff.1 (okCell_iff.1 (valid_cell hv hc)).2.2.2
  have inQ : ∀ t, t ∈ Q → ∃ j : Nat, t = j ∧ usedAt x.cs j = true ∧ (j : Int) ∉ refsOf x ∧ j ≠ k := fun t ht => by
    obtain ⟨j, e, h1, h2⟩ := (h.mem t).1 (by simp [ht])
    exact ⟨j, e, h1, h2, fun e2 => hkQ (by rw [← e2, ← e]; exact ht)⟩
  refine ⟨?_, fun t => ?_⟩
  · rw [List.nodup_append]
    refine ⟨hQ, lost_nodup _ _, fun a ha b hb e => ?_⟩
    obtain ⟨j, rfl, _, h2, _⟩ := inQ a ha
    rw [← e] at hb
    exact h2 ((free_mem hc _).2 (.inr (mem_lost.1 hb).1))
  · rw [List.mem_append]
    constructor
    · rintro (ht | ht)
      · obtain ⟨j, rfl, h1, h2, h3⟩ := inQ t ht
        exact ⟨j, rfl, by rw [used_free hk, h1]; simp [h3], fun hm => h2 ((free_mem hc _).2 (.inl hm))⟩
      · obtain ⟨h1, h2, h3⟩ := mem_lost.1 ht
        rcases okRef_iff.1 (hr t h1) with e | ⟨e, hu⟩
        · exact absurd e h2
        · obtain ⟨j, rfl⟩ := Int.eq_ofNat_of_zero_le e
          refine ⟨j, rfl, ?_, h3⟩
          rw [used_free hk]
          have hu' : usedAt x.cs j = true := by simpa using hu
          rw [hu']
          have : j ≠ k := fun e2 => hkn ((free_mem hc _).2 (.inr (by rw [← e2]; exact h1)))
          simp [this]
    · rintro ⟨j, rfl, h1, h2⟩
      rw [used_free hk, Bool.and_eq_true, decide_eq_true_eq] at h1
      by_cases hm : (j : Int) ∈ refsOf x
      · right
        rcases (free_mem hc _).1 hm with e | e
        · exact absurd e h2
        · exact mem_lost.2 ⟨e, by omega, h2⟩
      · left
        have := (h.mem j).2 ⟨j, rfl, h1.1, hm⟩
        rcases List.mem_cons.1 this with e | e
        · exact absurd (by omega) h1.2
        · exact e
end Hps
end Go.Proofs.YtfgdenmlfloloaaDoor

namespace Go.Proofs.YtfgdenmlfloloaaDoor
open Go.RowKit
set_option maxRecDepth 100000
/-- counts and a queue in the box b, all from block B on -/
structure FqSt (wr : World) (B b : Nat) (vk vq : Value) (ks Q : List Int) : Prop where
  own : OwnI wr B vk ks
  que : OwnQ wr B vq Q
  sep : vk.ownBlock = none ∨ vk.ownBlock ≠ vq.ownBlock
  box : Rw wr b 140 #[vk, vq]
  lo : B ≤ b
section
variable {wr w' : World} {B b g i : Nat} {vk vq vq' : Value} {ks ks' Q Q' : List Int}
theorem que_type {w : World} {bs g : Nat} {t : TypeId} {v : Value} {xs : List Int} {cs : Array Value} (h : OwnQ w bs v xs) (hr : Rw w g t cs) (hne : t ≠ 3) : some g ≠ v.ownBlock := fun hg => by
  rcases h with ⟨rfl, _⟩ | ⟨g', o, cap, cur, rfl, _, hh, _⟩
  · cases hg
  · obtain rfl : g = g' := Option.some.inj hg
    have hr' : w.heap[g]? = some (.cells cs t (0, 0)) := hr
    rw [hr'] at hh
    injection hh with hh
    injection hh with h1 h2
    exact hne h2
/-- a slice goes into the box as the queue -/
theorem FqSt.setq (S : FqSt wr B b vk vq ks Q) (ho : OwnQ wr B vq' Q') (hs : vk.ownBlock = none ∨ vk.ownBlock ≠ vq'.ownBlock) : FqSt (wr.setCell ⟨b, 1, none⟩ vq') B b vk vq' ks Q' := by
  have h1 := row_type S.own S.box (by decide)
  have h2 := que_type ho S.box (by decide)
  have hp := put_any wr b 1 vq'
  exact ⟨S.own.far hp (.inr h1.symm), ho.kept hp (.inr h2.symm), hs, S.box.put 1 vq', S.lo⟩
/-- one count is written -/
theorem FqSt.cnt {n c : Nat} (S : FqSt wr B b (.slice (some ⟨g, 0, none⟩) n c) vq ks Q) (hn : ks.length = n) (x : Int) : FqSt (wr.setCell ⟨g, i, none⟩ (.int .i64 x)) B b (.slice (some ⟨g, 0, none⟩) n c) vq (ks.set i x) Q := by
  have h1 : some b ≠ some g := row_type S.own S.box (by decide)
  have hp := put_any wr g i (.int .i64 x)
  refine ⟨S.own.put' hn x, S.que.kept hp ?_, S.sep, S.box.other (fun e => h1 (by rw [e])) _, S.lo⟩
  rcases S.sep with e | e
  · cases e
  · exact .inr fun e2 => e (by rw [e2]; rfl)
theorem FqSt.app {w1 : World} (S : FqSt wr B b vk vq ks Q) (ho : OwnQ w1 B vq' Q') (hg : wr.grownBy w1 vq.ownBlock) (hq : vq'.ownBlock = vq.ownBlock ∨ vq'.ownBlock = some wr.heap.size) : FqSt (w1.setCell ⟨b, 1, none⟩ vq') B b vk vq' ks Q' := by
  have h1 : some b ≠ vq.ownBlock := que_type S.que S.box (by decide)
  have hbx := Rw.far S.box hg h1
  have hk1 : OwnI w1 B vk ks := S.own.far hg S.sep
  have hsep : vk.ownBlock = none ∨ vk.ownBlock ≠ vq'.ownBlock := by
    rcases hq with e | e
    · rw [e]; exact S.sep
    · cases e2 : vk.ownBlock with
      | none => exact .inl rfl
      | some k =>
        right
        rw [e]
        intro e3
        have := (World.ownsRow.lt S.own k e2).2
        have := Option.some.inj e3
        omega
  have h2 : some b ≠ vk.ownBlock := row_type hk1 hbx (by decide)
  have h3 : some b ≠ vq'.ownBlock := que_type ho hbx (by decide)
  have hp := put_any w1 b 1 vq'
  exact ⟨hk1.far hp (.inr h2.symm), ho.kept hp (.inr h3.symm), hsep, hbx.put 1 vq', S.lo⟩
theorem FqSt.keep {w1 : World} (S : FqSt wr B b vk vq ks Q) (hk : ∀ j, B ≤ j → j < wr.heap.size → w1.heap[j]? = wr.heap[j]?) : FqSt w1 B b vk vq ks Q := by
  refine ⟨⟨S.own.1, ?_⟩, ?_, S.sep, (hk b S.lo S.box.lt).trans S.box, S.lo⟩
  · rcases S.own.2 with h0 | ⟨g, cap, cur, e, hb', hh, hr⟩
    · exact .inl h0
    · exact .inr ⟨g, cap, cur, e, hb', (hk g hb' (Array.getElem?_eq_some_iff.1 hh).1).trans hh, hr⟩
  · rcases S.que with h0 | ⟨g, o, cap, cur, e, hb', hh, hr⟩
    · exact .inl h0
    · exact .inr ⟨g, o, cap, cur, e, hb', (hk g hb' (Array.getElem?_eq_some_iff.1 hh).1).trans hh, hr⟩
end
set_option maxHeartbeats 1000000 in
theorem next_any (B b : Nat) (vk vq : Value) (ks Q : List Int) (x : Int) (w : World) (S : FqSt w B b vk vq ks (x :: Q)) :
    Calls Tryd.prog 108 #[.pointer (some ⟨b, 0, none⟩)] w fun e w' => e = .returned (.int .i64 x) ∧ ∃ vq', FqSt w' B b vk vq' ks Q ∧ Below B w w' := by
  obtain ⟨g, o, c, rfl, hg, c0, hc1, hc2, hr⟩ := S.que.head
  have S2 := S.setq (vq' := if c = 1 then .slice (some ⟨g, o, none⟩) 0 0 else .slice (some ⟨g, o + 1, none⟩) Q.length (c - 1)) hr (by
    have := S.sep
    split <;> exact this)
  have b2 : Below B w (w.setCell ⟨b, 1, none⟩ (if c = 1 then .slice (some ⟨g, o, none⟩) 0 0 else .slice (some ⟨g, o + 1, none⟩) Q.length (c - 1))) := (Below.refl _ _).setCell (p := ⟨b, 1, none⟩) S.lo _
  have x1 : w.cell? ⟨b, 1, none⟩ = some (.slice (some ⟨g, o, none⟩) (Q.length + 1) c) := S.box.cell 1
  have f1 : w.frozen? ⟨b, 1, none⟩ = false := S.box.frozen 1
  clear S hr
  by_cases h1 : c = 1
  · rw [if_pos h1] at S2 b2
    subst h1
    obtain ⟨ln, hln⟩ : ∃ ln, Q.length = ln := ⟨_, rfl⟩
    rw [hln] at x1 hc1
    obtain rfl : ln = 0 := by omega
    go_enter Tryd.func108, Tryd.ntmps108
    go_wp2_with fail
    go_ret
    exact ⟨rfl, _, S2, b2⟩
  · rw [if_neg h1] at S2 b2
    go_enter Tryd.func108, Tryd.ntmps108
    go_wp2_with fail
    go_ret
    exact ⟨rfl, _, S2, b2⟩
set_option maxHeartbeats 1000000 in
theorem lose_any (B b n q cq : Nat) (F : Option Addr) (vk vq : Value) (Bs Q rs : List Int) (w : World) (S : FqSt w B b vk vq (Hps.cntN n (Bs ++ rs)) Q) (hf : IS w B F q rs) (hok : ∀ t ∈ rs, t = -1 ∨ ∃ y : Nat, t = y ∧ y < n)
    (hn : n ≤ 1000000) (hq : q ≤ 1000000) (hB : Bs.length ≤ 1000000000) (hQ : Q.length ≤ 1000000) :
    Calls Tryd.prog 109 #[.pointer (some ⟨b, 0, none⟩), .slice F q cq] w fun e w' => e = .returned (.tuple #[]) ∧ ∃ vq', FqSt w' B b vk vq' (Hps.cntN n Bs) (Q ++ Hps.lostF Bs rs) ∧ Below B w w' := by
  have hlr := hf.1
  have HO := Lib.hid hok
  obtain ⟨A, c, rfl, hA⟩ := S.own.form
  rw [Hps.cntN_len] at S hA ⊢
  have HA := Lib.hid hA
  clear hok hA
  go_enter Tryd.func109, Tryd.ntmps109
  go_wp2_with fail
  go_loopw [8] (fun i wr => ∃ (k : Nat) (vq' : Value) (L : List Int), k ≤ q ∧ i = .int .i64 k ∧ FqSt wr B b (.slice A n c) vq' (Hps.cntN n (Bs ++ rs.drop k)) (Q ++ L) ∧ L ++ Hps.lostF Bs (rs.drop k) = Hps.lostF Bs rs ∧ Below B w wr) (fun i _ => q - (intOf i).toNat)
  case atStart => exact ⟨0, vq, [], Nat.zero_le _, rfl, by rw [List.drop_zero, List.append_nil]; exact S, rfl, Below.refl _ _⟩
  case round =>
    clear S vq
    obtain ⟨k, vq, L, hk, rfl, S, hL, bb⟩ := hrel
    by_cases hlt : k < q
    · obtain ⟨gr, or, x, e2, hgr, hx1, d0⟩ := hf.at_ hlt
      subst e2
      have d1 := (bb.cell (p := ⟨gr, or + k, none⟩) hgr).trans d0
      have hltk : (k : Int) < q := by omega
      have HT := Lib.hid (show rs.drop k = x :: rs.drop (k + 1) by rw [List.drop_eq_getElem_cons (by omega)]; congr 1; exact Option.some.inj ((List.getElem?_eq_getElem (by omega)).symm.trans hx1))
      have hox := HO.out x (List.mem_of_getElem? hx1)
      have x0 : wr.cell? ⟨b, 0, none⟩ = some (.slice A n c) := S.box.cell 0
      clear d0 hx1
      by_cases hm1 : x = -1
      · subst hm1
        have S2 := Lib.hid S
        rw [HT.out, Hps.cntN_neg1] at S2
        have HL := Lib.hid hL
        rw [HT.out, Hps.lost_none] at HL
        clear hox S hL
        go_wp2_with fail
        go_roundw
        case rel => exact ⟨k + 1, vq, L, by omega, by go_num, S2.out, HL.out, bb⟩
        case measure => simp [intOf]; omega
      · have hne : (x == -1) = false := by rw [beq_eq_false_iff_ne]; exact hm1
        obtain ⟨y, rfl, hy⟩ : ∃ y : Nat, x = y ∧ y < n := by
          rcases hox with e | e
          · exact absurd e hm1
          · exact e
        obtain ⟨g, e1, -, -⟩ := HA.out (by omega)
        subst e1
        obtain ⟨g', o', v, e1, _, hv, c1⟩ := S.own.reads.at_ (k := y) hy
        injection e1 with e1
        injection e1 with e2 e3
        subst e2 e3
        rw [Nat.zero_add] at c1
        rw [Hps.cntN_at _ hy, HT.out, Hps.count_cons_y] at hv
        obtain ⟨m, hm⟩ : ∃ m, (Bs ++ rs.drop (k + 1)).count (y : Int) = m := ⟨_, rfl⟩
        have hml := Hps.count_le_len (Bs ++ rs.drop (k + 1)) (y : Int)
        rw [List.length_append, List.length_drop, hm] at hml
        rw [hm] at hv
        obtain rfl : (m : Int) + 1 = v := by have := Option.some.inj hv; omega
        have hy' : (y : Int) < n := by omega
        have hu : IntKind.i64.wrap ((m : Int) + 1 - 1) = m := by rw [IntWalk.i64_in _ (by omega)]; omega
        have hu2 : IntKind.i64.wrap (m : Int) = m := IntWalk.i64_in _ (by omega)
        have fz : wr.frozen? ⟨g, y, none⟩ = false := S.own.frozen (Hps.cntN_len _ _) y
        have S2 := S.cnt (i := y) (Hps.cntN_len _ _) (m : Int)
        rw [HT.out, ← hm, Hps.cntN_drop hy, hm] at S2
        have SS := Lib.hid S2
        have x2 : (wr.setCell ⟨g, y, none⟩ (.int .i64 m)).cell? ⟨b, 0, none⟩ = some (.slice (some ⟨g, 0, none⟩) n c) := S2.box.cell 0
        have x3 : (wr.setCell ⟨g, y, none⟩ (.int .i64 m)).cell? ⟨b, 1, none⟩ = some vq := S2.box.cell 1
        have bn := bb.setCell (p := ⟨g, y, none⟩) (World.ownsRow.lt S.own g rfl).1 (.int .i64 m)
        have hLl : (L ++ Hps.lostF Bs (rs.drop k)).length ≤ q := by
          rw [hL]
          exact Nat.le_trans (Hps.lost_len _ _) (by omega)
        rw [List.length_append] at hLl
        have HL := Lib.hid hL
        rw [HT.out] at HL
        have HM := Lib.hid hm
        have sz := bb.size
        have hBw := S.own.2
        have hgl := World.ownsRow.lt S.own g rfl
        have cy : (wr.setCell ⟨g, y, none⟩ (.int .i64 m)).cell? ⟨g, y, none⟩ = some (.int .i64 m) := by
          obtain ⟨g', o', v, e1, _, hv2, c2⟩ := S2.own.reads.at_ (k := y) hy
          injection e1 with e1
          injection e1 with e2 e3
          subst e2 e3
          rw [Nat.zero_add] at c2
          rw [Hps.cntN_at _ hy, hm] at hv2
          rw [c2, ← Option.some.inj hv2]
        have fb : (wr.setCell ⟨g, y, none⟩ (.int .i64 m)).frozen? ⟨b, 1, none⟩ = false := S2.box.frozen 1
        clear hL hm S S2 hv hox hml hBw
        by_cases hm0 : m = 0
        · have HL2 := Lib.hid (show (L ++ [(y : Int)]) ++ Hps.lostF Bs (rs.drop (k + 1)) = Hps.lostF Bs rs by rw [← HL.out, Hps.lost_yes (by rw [HM.out]; exact hm0)]; simp)
          have hm0' : ((m : Int) == 0) = true := by simp [hm0]
          have SA := SS.out.keep (w1 := (wr.setCell ⟨g, y, none⟩ (.int .i64 m)).alloc (.cells #[.int .i64 y] 3)) (fun j _ hj => Below.heap_alloc _ _ j hj)
          have RN := Rw.new (wr.setCell ⟨g, y, none⟩ (.int .i64 m)) 3 #[.int .i64 y]
          rw [show (wr.setCell ⟨g, y, none⟩ (.int .i64 m)).heap.size = wr.heap.size by simp] at RN
          have cn : ((wr.setCell ⟨g, y, none⟩ (.int .i64 m)).alloc (.cells #[.int .i64 y] 3)).cell? ⟨wr.heap.size, 0, none⟩ = some (.int .i64 y) := RN.cell 0
          have hwl : B ≤ ((wr.setCell ⟨g, y, none⟩ (.int .i64 m)).alloc (.cells #[.int .i64 y] 3)).heap.size := by simp; omega
          have bna := bn.alloc (show B ≤ (wr.setCell ⟨g, y, none⟩ (.int .i64 m)).heap.size by simp; omega) (.cells #[.int .i64 y] 3)
          clear hm0
          go_wp2_with (at_builtin; refine wpList_appendQ rfl (.tmp 35) (.tmp 37) rfl B _ (Q ++ L) rfl SA.que wr.heap.size 1 (y : Int) rfl cn (by simp; omega) hwl ?_; intro v5 w5 o5 g5 s5; replace g5 : World.grownBy _ w5 vq.ownBlock := g5; replace s5 : v5.ownBlock = vq.ownBlock ∨ v5.ownBlock = some (World.heap _).size := s5; have S5 := Lib.hid (SA.app o5 g5 s5); have hbx := Rw.far SA.box g5 (que_type SA.que SA.box (by decide)); have f5 : w5.frozen? ⟨b, 1, none⟩ = false := hbx.frozen 1; have z5 : w5.cell? ⟨b, 1, none⟩ = some vq := hbx.cell 1; have bn5 := (bna.grown g5 hwl (fun k hk => (SA.que.lt k hk).1)).setCell (p := ⟨b, 1, none⟩) SA.lo v5; obtain ⟨A5, c5, e5⟩ := o5.form; generalize (Q ++ L ++ [(y : Int)]).length = l5 at e5; clear o5 g5 s5 hbx; subst e5)
          go_roundw
          case rel => exact ⟨k + 1, _, L ++ [(y : Int)], by omega, by go_num, by rw [← List.append_assoc]; exact S5.out, HL2.out, bn5⟩
          case measure => simp [intOf]; omega
        · have HL2 := Lib.hid (show L ++ Hps.lostF Bs (rs.drop (k + 1)) = Hps.lostF Bs rs by rw [← HL.out, Hps.lost_no (by rw [HM.out]; exact hm0)])
          have hm0' : ((m : Int) == 0) = false := by rw [beq_eq_false_iff_ne]; omega
          clear hm0
          go_wp2_with fail
          go_roundw
          case rel => exact ⟨k + 1, vq, L, by omega, by go_num, SS.out, HL2.out, bn⟩
          case measure => simp [intOf]; omega
    · obtain rfl : k = q := by omega
      rw [List.drop_eq_nil_of_le (by omega)] at S hL
      rw [List.append_nil] at S
      rw [Hps.lostF, List.append_nil] at hL
      go_wp2_with fail
      exact bodyPost_end (results_none rfl _ _ _) rfl ⟨rfl, vq, by rw [← hL]; exact S, bb⟩
end Go.Proofs.YtfgdenmlfloloaaDoor

namespace Go.Proofs.YtfgdenmlfloloaaDoor
namespace Bm
/-- the bits of the first k words that are b -/
def setN (xs : List Bool) (b : Bool) : Nat → Nat
  | 0 => 0
  | k + 1 => if xs[k]? = some b then setN xs b k ||| 2 ^ k else setN xs b k
theorem setN_bit (xs : List Bool) (b : Bool) (i : Nat) : ∀ k, (setN xs b k).testBit i = (decide (i < k) && decide (xs[i]? = some b))
  | 0 => by simp [setN]
  | k + 1 => by
    have ih := setN_bit xs b i k
    unfold setN
    by_cases hx : xs[k]? = some b
    · rw [if_pos hx, Nat.testBit_or, ih, Nat.testBit_two_pow]
      rcases Nat.lt_trichotomy i k with h | h | h
      · have h1 : ¬ k = i := by omega
        have h2 : i < k + 1 := by omega
        simp [h, h1, h2]
      · subst h
        simp [hx]
      · have h1 : ¬ k = i := by omega
        have h2 : ¬ i < k + 1 := by omega
        have h3 : ¬ i < k := by omega
        simp [h1, h2, h3]
    · rw [if_neg hx, ih]
      rcases Nat.lt_trichotomy i k with h | h | h
      · have h2 : i < k + 1 := by omega
        simp [h, h2]
      · subst h
        simp [hx]
      · have h2 : ¬ i < k + 1 := by omega
        have h3 : ¬ i < k := by omega
        simp [h2, h3]
theorem setN_lt (xs : List Bool) (b : Bool) : ∀ k, setN xs b k < 2 ^ k
  | 0 => by simp [setN]
  | k + 1 => by
    have ih := setN_lt xs b k
    have h2 : 2 ^ k < 2 ^ (k + 1) := Nat.pow_lt_pow_right (by omega) (by omega)
    unfold setN
    split
    · exact Nat.or_lt_two_pow (by omega) h2
    · omega
theorem pow64 {k : Nat} (h : k ≤ 64) : 2 ^ k ≤ 18446744073709551616 := by
  rw [show (18446744073709551616 : Nat) = 2 ^ 64 by decide]
  exact Nat.pow_le_pow_right (by omega) h
theorem setN_64 (xs : List Bool) (b : Bool) {k : Nat} (h : k ≤ 64) : setN xs b k < 18446744073709551616 := Nat.lt_of_lt_of_le (setN_lt xs b k) (pow64 h)
/-- the bits of all words that are b -/
def wordN (xs : List Bool) (b : Bool) : Nat := setN xs b xs.length
theorem wordN_bit (xs : List Bool) (b : Bool) (i : Nat) : (wordN xs b).testBit i = decide (xs[i]? = some b) := by
  unfold wordN
  rw [setN_bit]
  by_cases h : i < xs.length
  · simp [h]
  · rw [List.getElem?_eq_none (by omega)]
    simp
theorem wordN_lt (xs : List Bool) (b : Bool) (h : xs.length ≤ 64) : wordN xs b < 18446744073709551616 := setN_64 xs b h
/-- a bit and nothing else -/
theorem and_pow (n i : Nat) : n &&& 2 ^ i = if n.testBit i = true then 2 ^ i else 0 := by
  apply Nat.eq_of_testBit_eq
  intro j
  rw [Nat.testBit_and, Nat.testBit_two_pow]
  by_cases h : i = j
  · subst h
    cases n.testBit i <;> simp
  · cases n.testBit i <;> simp [h]
/-- the lowest bit -/
theorem ctz_bit {x : Nat} (h0 : x ≠ 0) (h : x < 18446744073709551616) : x.testBit (Lib.ctz 64 x) = true ∧ ∀ i, i < Lib.ctz 64 x → x.testBit i = false := by
  obtain ⟨m, hm, hk⟩ := Lib.ctzFrom_spec 64 x (by omega) h
  have e : Lib.ctz 64 x = Lib.ctzFrom 64 x := by simp [Lib.ctz, h0]
  rw [e]
  obtain ⟨k, hkk⟩ : ∃ k, Lib.ctzFrom 64 x = k := ⟨_, rfl⟩
  rw [hkk] at hm ⊢
  rw [hm, Nat.mul_comm]
  constructor
  · rw [Nat.testBit_mul_two_pow]
    simp
  · intro i hi
    rw [Nat.testBit_mul_two_pow]
    simp
    omega
end Bm
end Go.Proofs.YtfgdenmlfloloaaDoor
namespace Go.Proofs.YtfgdenmlfloloaaDoor
/-- the bits of a number below k that are set -/
def pcN (V k : Nat) : Nat := (List.range k).countP V.testBit
namespace Pc
def val : List Nat → Nat
  | [] => 0
  | b :: bs => b + 256 * val bs
def s1 (x m : Nat) : Nat := (x / 2 &&& m) + (x &&& m)
def s2 (x m : Nat) : Nat := (x / 4 &&& m) + (x &&& m)
def s3 (x m : Nat) : Nat := (x / 16 + x) &&& m
theorem m1 : ∀ b : Fin 256, ∀ j : Fin 2, (b.val / 2 + 128 * j.val) &&& 85 = b.val / 2 &&& 85 := by decide +kernel
def g (b : Nat) : Nat := s3 (s2 (s1 b 85) 51) 15
end Pc
end Go.Proofs.YtfgdenmlfloloaaDoor
namespace Go.Proofs.YtfgdenmlfloloaaDoor
open Go.RowKit
namespace Hps
theorem pow_in {k : Nat} (h : k < 64) : IntKind.u64.wrap (2 ^ k) = 2 ^ k ∧ (0 : Int) < 2 ^ k ∧ (2 : Int) ^ k < 18446744073709551616 := by
  have h1 : (2 : Nat) ^ k < 2 ^ 64 := Nat.pow_lt_pow_right (by omega) h
  have h2 : (0 : Nat) < 2 ^ k := Nat.pow_pos (by omega)
  have e : ((2 ^ k : Nat) : Int) = (2 : Int) ^ k := by rw [Int.natCast_pow]; rfl
  refine ⟨?_, by omega, by omega⟩
  rw [IntKind.wrap_u64]
  omega
theorem pow_out {k : Nat} (h : 64 ≤ k) : IntKind.u64.wrap (2 ^ k) = 0 := by
  have e : ((2 ^ k : Nat) : Int) = (2 : Int) ^ k := by rw [Int.natCast_pow]; rfl
  obtain ⟨j, rfl⟩ : ∃ j, k = 64 + j := ⟨k - 64, by omega⟩
  rw [IntKind.wrap_u64, ← e, Nat.pow_add, show (2 : Nat) ^ 64 = 18446744073709551616 by decide]
  omega
theorem or_in {V k : Nat} (hV : V < 18446744073709551616) (h : k < 64) : bits .or .u64 (V : Int) (2 ^ k) = ((V ||| 2 ^ k : Nat) : Int) := by
  have h1 : (2 : Nat) ^ k < 2 ^ 64 := Nat.pow_lt_pow_right (by omega) h
  have := u64_or_nat V (2 ^ k) hV (by omega)
  rw [← this, Int.natCast_pow]
  rfl
theorem and_in {V k : Nat} (hV : V < 18446744073709551616) (h : k < 64) : bits .and .u64 (V : Int) (2 ^ k) = if V.testBit k = true then 2 ^ k else 0 := by
  have h1 : (2 : Nat) ^ k < 2 ^ 64 := Nat.pow_lt_pow_right (by omega) h
  have := u64_and_nat V (2 ^ k) hV (by omega)
  rw [Int.natCast_pow] at this
  rw [show (2 : Int) ^ k = ((2 : Nat) : Int) ^ k from rfl, this, Bm.and_pow]
  split
  · rw [Int.natCast_pow]
  · rfl
/-- the number is that of a cell of the set -/
def hasB (V : Nat) (x : Int) : Bool := decide (0 ≤ x) && V.testBit x.toNat
def okV (V : Nat) (x : Int) : Bool := x == -1 || hasB V x
def okVs (V : Nat) (rs : List Int) : Bool := rs.all (okV V)
theorem okVs_iff {V : Nat} {rs : List Int} : okVs V rs = true ↔ ∀ n ∈ rs, okV V n = true := by simp [okVs]
theorem okVs_no {V : Nat} {rs : List Int} {k : Nat} {n : Int} (hn : rs[k]? = some n) (h : okV V n = false) : okVs V rs = false := by
  cases hh : okVs V rs
  · rfl
  · rw [okVs_iff.1 hh n (List.mem_of_getElem? hn)] at h
    cases h
/-- the set of the used cells -/
def usedW (cs : List Cl) : Nat := Bm.wordN (cs.map (·.u)) true
theorem usedW_lt {cs : List Cl} (h : cs.length ≤ 64) : usedW cs < 18446744073709551616 := Bm.wordN_lt _ _ (by simpa using h)
theorem usedW_bit (cs : List Cl) (i : Nat) : (usedW cs).testBit i = usedAt cs i := by
  unfold usedW
  rw [Bm.wordN_bit, List.getElem?_map]
  unfold usedAt
  cases cs[i]? with
  | none => simp
  | some c => cases h : c.u <;> simp [h]
theorem okV_used (cs : List Cl) (x : Int) : okV (usedW cs) x = okRef cs x := by
  unfold okV okRef hasB
  rw [usedW_bit]
theorem okVs_used (cs : List Cl) (rs : List Int) : okVs (usedW cs) rs = okRefs cs rs := by
  unfold okVs okRefs
  congr 1
  funext x
  exact okV_used cs x
/-- a cell is valid beside these used ones -/
def okCl (V : Nat) (c : Cl) : Bool := if c.u = true then (decide (0 ≤ c.d) && decide (c.d ≤ 99)) && (decide (c.r.length ≤ 3) && okVs V c.r) else c.d == 0 && decide (c.r.length = 0)
theorem okCl_used (cs : List Cl) (c : Cl) : okCl (usedW cs) c = okCell cs c := by
  unfold okCl okCell
  rw [okVs_used]
  cases hu : c.u
  · rw [if_neg (by decide), Bool.false_or]
    by_cases h : c.d = 0 ∧ c.r.length = 0
    · obtain ⟨h1, h2⟩ := h
      have : c.r = [] := List.eq_nil_of_length_eq_zero h2
      rw [h1, this]
      simp [okRefs]
    · have : (c.d == 0 && decide (c.r.length = 0)) = false := by
        rw [Bool.and_eq_false_iff, beq_eq_false_iff_ne, decide_eq_false_iff_not]
        omega
      rw [this]
      simp
  · rw [if_pos rfl, Bool.true_or, Bool.true_and]
    simp only [Bool.and_assoc]
end Hps
theorem has_any (V : Nat) (x : Int) (w : World) (hV : V < 18446744073709551616) :
    Calls Tryd.prog 122 #[.int .u64 V, .int .i64 x] w fun e w' => e = .returned (.bool (Hps.hasB V x)) ∧ w = w' := by
  by_cases h0 : 0 ≤ x
  · obtain ⟨k, rfl⟩ := Int.eq_ofNat_of_zero_le h0
    have h0' : (k : Int) ≥ 0 := h0
    have hkneg : ¬ ((k : Int) < 0) := by omega
    have HB := Lib.hid (show Hps.hasB V (k : Int) = V.testBit k by simp [Hps.hasB])
    by_cases h : k < 64
    · obtain ⟨p1, p2, p3⟩ := Hps.pow_in h
      have hand := Hps.and_in hV h
      cases ht : V.testBit k
      · rw [ht] at hand HB
        rw [if_neg (by decide)] at hand
        clear ht
        go_enter Tryd.func122, Tryd.ntmps122
        go_wp2_with fail
        go_ret
        exact ⟨by rw [HB.out]; rfl, rfl⟩
      · rw [ht] at hand HB
        rw [if_pos rfl] at hand
        have hz : ((2 : Int) ^ k != 0) = true := by rw [bne_iff_ne]; omega
        clear ht
        go_enter Tryd.func122, Tryd.ntmps122
        go_wp2_with fail
        go_ret
        exact ⟨by rw [HB.out]; rfl, rfl⟩
    · have HF := Lib.hid (show V.testBit k = false from Nat.testBit_lt_two_pow (Nat.lt_of_lt_of_le hV (by rw [show (18446744073709551616 : Nat) = 2 ^ 64 by decide]; exact Nat.pow_le_pow_right (by omega) (by omega))))
      have p1 : IntKind.u64.wrap (2 ^ min k 64) = 0 := by rw [show min k 64 = 64 by omega]; exact Hps.pow_out (Nat.le_refl _)
      have hand : bits .and .u64 (V : Int) 0 = 0 := by
        have := u64_and_nat V 0 hV (by omega)
        rw [Nat.and_zero] at this
        exact this
      go_enter Tryd.func122, Tryd.ntmps122
      go_wp2_with fail
      go_ret
      exact ⟨by rw [HB.out, HF.out]; first | rfl | (simp only [p1, hand]; rfl), rfl⟩
  · have h0' : decide (x ≥ 0) = false := decide_eq_false h0
    have HB := Lib.hid (show Hps.hasB V x = false by simp [Hps.hasB, h0])
    go_enter Tryd.func122, Tryd.ntmps122
    go_wp2_with fail
    go_ret
    exact ⟨by rw [HB.out]; rfl, rfl⟩
set_option maxHeartbeats 1000000 in
theorem hasTargets_any (F : Option Addr) (q e V : Nat) (rs : List Int) (w : World) (hf : IS w w.heap.size F q rs) (hV : V < 18446744073709551616) (hq : q ≤ 1099511627776) :
    Calls Tryd.prog 94 #[.int .u64 V, .slice F q e] w fun e w' => e = .returned (.bool (Hps.okVs V rs)) ∧ w = w' := by
  have hlr := hf.1
  go_enter Tryd.func94, Tryd.ntmps94
  go_wp2_with fail
  go_loopw [9] (fun i wr => ∃ k : Nat, k ≤ q ∧ i = .int .i64 k ∧ Hid (∀ j x, j < k → rs[j]? = some x → Hps.okV V x = true) ∧ wr = w) (fun i _ => q - (intOf i).toNat)
  case atStart => exact ⟨0, Nat.zero_le _, rfl, Lib.hid (fun j x hj => by omega), rfl⟩
  case round =>
    obtain ⟨k, hk, rfl, HP, rfl⟩ := hrel
    by_cases hlt : k < q
    · obtain ⟨g, o, x, rfl, hg, hx, c1⟩ := hf.at_ hlt
      have hlt' : (k : Int) < q := by omega
      have HN : Hps.okV V x = true → Hid (∀ j y, j < k + 1 → rs[j]? = some y → Hps.okV V y = true) := fun hok => Lib.hid fun j y hj hy => by
        rcases Nat.lt_or_ge j k with h1 | h1
        · exact HP.out j y h1 hy
        · obtain rfl : j = k := by omega
          rw [hx] at hy
          injection hy with hy
          rw [← hy]
          exact hok
      have HX := Lib.hid hx
      clear hx
      by_cases hm1 : x = -1
      · subst hm1
        have HN2 := HN (by simp [Hps.okV])
        clear HN
        go_wp2_with fail
        go_roundw
        case rel => exact ⟨k + 1, by omega, by go_num, HN2, trivial⟩
        case measure => simp [intOf]; omega
      · have hne : (x != -1) = true := by rw [bne_iff_ne]; exact hm1
        have HEQ := Lib.hid (show Hps.okV V x = Hps.hasB V x by simp [Hps.okV, hm1])
        cases hb : Hps.hasB V x
        · have HR := Lib.hid (Hps.okVs_no HX.out (HEQ.out.trans hb))
          have HB := Lib.hid hb
          clear hb HN
          go_wp2_with fail
          refine (has_any V x _ hV).mono ?_
          rw [HB.out]
          rintro e w1 ⟨rfl, rfl⟩
          go_wp2_with fail
          go_ret
          exact ⟨by rw [HR.out]; rfl, rfl⟩
        · have HN2 := HN (HEQ.out.trans hb)
          have HB := Lib.hid hb
          clear hb HN
          go_wp2_with fail
          refine (has_any V x _ hV).mono ?_
          rw [HB.out]
          rintro e w1 ⟨rfl, rfl⟩
          go_wp2_with fail
          go_roundw
          case rel => exact ⟨k + 1, by omega, by go_num, HN2, trivial⟩
          case measure => simp [intOf]; omega
    · obtain rfl : k = q := by omega
      have HR := Lib.hid (show Hps.okVs V rs = true by
        rw [Hps.okVs_iff]
        intro x hx
        obtain ⟨j, hj⟩ := List.mem_iff_getElem?.1 hx
        exact HP.out j x (by rw [← hlr]; exact (List.getElem?_eq_some_iff.1 hj).1) hj)
      go_wp2_with fail
      go_ret
      exact ⟨by rw [HR.out]; rfl, rfl⟩
set_option maxHeartbeats 1000000 in
theorem usedSet_any (A : Option Addr) (n c : Nat) (cs : List Cl) (w : World) (h : CS w w.heap.size A n cs) (hn : n ≤ 64) :
    Calls Tryd.prog 48 #[.slice A n c] w fun e w' => e = .returned (.int .u64 (Hps.usedW cs : Nat)) ∧ Below w.heap.size w w' := by
  have hlc := h.1
  obtain ⟨us, hus⟩ : ∃ us, cs.map (·.u) = us := ⟨_, rfl⟩
  have HW := Lib.hid (show Hps.usedW cs = Bm.setN us true n by rw [Hps.usedW, Bm.wordN, hus, ← hus, List.length_map, hlc])
  have HUS := Lib.hid hus
  clear hus
  go_enter Tryd.func48, Tryd.ntmps48
  go_wp2_with fail
  go_loopw [3, 8] (fun v i wr => ∃ k : Nat, k ≤ n ∧ i = .int .i64 k ∧ v = .int .u64 (Bm.setN us true k : Nat) ∧ Below w.heap.size w wr) (fun _ i _ => n - (intOf i).toNat)
  case atStart => exact ⟨0, Nat.zero_le _, rfl, rfl, Below.refl _ _⟩
  case round =>
    obtain ⟨k, hk, rfl, rfl, bb⟩ := hrel
    by_cases hlt : k < n
    · obtain ⟨g, o, cl, A', m', cc, rfl, hg, hcl, d1, d2, d3, hmc, hi⟩ := (h.below bb).at_ hlt
      have hlt' : (k : Int) < n := by omega
      have hV := Bm.setN_64 us true (k := k) (by omega)
      obtain ⟨p1, p2, p3⟩ := Hps.pow_in (k := k) (by omega)
      have hor := Hps.or_in (V := Bm.setN us true k) (k := k) hV (by omega)
      have hkneg : ¬ ((k : Int) < 0) := by omega
      have hux : us[k]? = some cl.u := by rw [← HUS.out, List.getElem?_map, hcl]; rfl
      clear hcl
      cases hu : cl.u
      · rw [hu] at d1 hux
        have HN := Lib.hid (show Bm.setN us true (k + 1) = Bm.setN us true k by rw [Bm.setN, if_neg (by rw [hux]; decide)])
        have bW := bb.alloc bb.size (.cells #[.bool false, .int .i64 cl.d, .slice A' m' cc] 43)
        clear hu hux
        go_wp2_with fail
        go_roundw
        case rel => exact ⟨k + 1, by omega, by go_num, by rw [HN.out], bW⟩
        case measure => simp [intOf]; omega
      · rw [hu] at d1 hux
        have HN := Lib.hid (show Bm.setN us true (k + 1) = Bm.setN us true k ||| 2 ^ k by rw [Bm.setN, if_pos hux])
        have bW := bb.alloc bb.size (.cells #[.bool true, .int .i64 cl.d, .slice A' m' cc] 43)
        clear hu hux
        go_wp2_with fail
        go_roundw
        case rel => exact ⟨k + 1, by omega, by go_num, by rw [HN.out], bW⟩
        case measure => simp [intOf]; omega
    · obtain rfl : k = n := by omega
      go_wp2_with fail
      go_ret
      exact ⟨by rw [HW.out]; rfl, bb⟩
set_option maxHeartbeats 1000000 in
theorem cellValid_any (cl : Cl) (A : Option Addr) (m cc V : Nat) (w : World) (hi : IS w w.heap.size A m cl.r) (hV : V < 18446744073709551616) :
    Calls Tryd.prog 93 #[.agg #[.bool cl.u, .int .i64 cl.d, .slice A m cc], .int .u64 V] w fun e w' => e = .returned (.bool (Hps.okCl V cl)) ∧ Below w.heap.size w w' := by
  have hlr := hi.1
  cases hu : cl.u
  · have bW := (Below.refl w.heap.size w).alloc (Nat.le_refl _) (.cells #[.bool false, .int .i64 cl.d, .slice A m cc] 43)
    have HC := Lib.hid (show Hps.okCl V cl = (cl.d == 0 && decide (m = 0)) by unfold Hps.okCl; rw [if_neg (by rw [hu]; decide), hlr])
    clear hu
    by_cases hd : cl.d = 0
    · have hd' : (cl.d == 0) = true := by rw [beq_iff_eq]; exact hd
      have HD := Lib.hid hd'
      clear hd
      by_cases hm0 : m = 0
      · subst hm0
        go_enter Tryd.func93, Tryd.ntmps93
        go_wp2_with fail
        go_ret
        exact ⟨by rw [HC.out, HD.out]; rfl, bW⟩
      · have hm0' : ((m : Int) == 0) = false := by rw [beq_eq_false_iff_ne]; omega
        have HM := Lib.hid (decide_eq_false hm0)
        go_enter Tryd.func93, Tryd.ntmps93
        go_wp2_with fail
        go_ret
        exact ⟨by rw [HC.out, HD.out, HM.out]; rfl, bW⟩
    · have hd' : (cl.d == 0) = false := by rw [beq_eq_false_iff_ne]; exact hd
      have HD := Lib.hid hd'
      go_enter Tryd.func93, Tryd.ntmps93
      go_wp2_with fail
      go_ret
      exact ⟨by rw [HC.out, HD.out]; rfl, bW⟩
  · have bW := (Below.refl w.heap.size w).alloc (Nat.le_refl _) (.cells #[.bool true, .int .i64 cl.d, .slice A m cc] 43)
    have hiW := (hi.below bW).more bW.size
    have HC := Lib.hid (show Hps.okCl V cl = ((decide (0 ≤ cl.d) && decide (cl.d ≤ 99)) && (decide (m ≤ 3) && Hps.okVs V cl.r)) by unfold Hps.okCl; rw [if_pos hu, hlr])
    clear hu
    by_cases h1 : 0 ≤ cl.d
    · by_cases h2 : cl.d ≤ 99
      · by_cases h3 : m ≤ 3
        · have h3' : (m : Int) ≤ 3 := by omega
          have H := Lib.hid (And.intro (decide_eq_true h1) (And.intro (decide_eq_true h2) (decide_eq_true h3)))
          go_enter Tryd.func93, Tryd.ntmps93
          go_wp2_with fail
          refine (hasTargets_any _ _ _ V cl.r _ hiW hV (by omega)).mono ?_
          rintro e w1 ⟨rfl, rfl⟩
          go_wp2_with fail
          go_ret
          exact ⟨by rw [HC.out, H.out.1, H.out.2.1, H.out.2.2]; simp, bW⟩
        · have h3' : ¬ (m : Int) ≤ 3 := by omega
          have H := Lib.hid (decide_eq_false h3)
          go_enter Tryd.func93, Tryd.ntmps93
          go_wp2_with fail
          go_ret
          exact ⟨by rw [HC.out, H.out]; simp, bW⟩
      · have H := Lib.hid (decide_eq_false h2)
        go_enter Tryd.func93, Tryd.ntmps93
        go_wp2_with fail
        go_ret
        exact ⟨by rw [HC.out, H.out]; simp, bW⟩
    · have H := Lib.hid (decide_eq_false h1)
      go_enter Tryd.func93, Tryd.ntmps93
      go_wp2_with fail
      go_ret
      exact ⟨by rw [HC.out, H.out]; simp, bW⟩
end Go.Proofs.YtfgdenmlfloloaaDoor
namespace Go.Proofs.YtfgdenmlfloloaaDoor
open Go.RowKit
set_option maxRecDepth 100000
set_option maxHeartbeats 1000000 in
theorem heapValid_any (A R : Option Addr) (n c m d : Nat) (h : Hp) (w : World) (hs : HS w w.heap.size A n R m h) (hn : n ≤ 1099511627776) (hm : m ≤ 1099511627776) (_hc : n ≤ c) (_hd : m ≤ d) :
    Calls Tryd.prog 47 #[heapV A n c R m d] w fun e w' => e = .returned (.bool (Hps.validH h)) ∧ Below w.heap.size w w' := by
  have hlc := hs.cells.1
  have hlr := hs.roots.1
  have b0 : Below w.heap.size w (w.alloc (.cells #[.slice A n c, .slice R m d] 26)) := (Below.refl _ _).alloc (Nat.le_refl _) _
  by_cases h40 : n ≤ 40
  · by_cases h4 : m = 4
    · subst h4
      have h40' : (n : Int) ≤ 40 := by omega
      have r0 := hs.up b0
      have hw0 := Rw.new w 26 #[.slice A n c, .slice R 4 d]
      have hV := Hps.usedW_lt (cs := h.cs) (by omega)
      have HOR := Lib.hid (Hps.okVs_used h.cs)
      have HOC := Lib.hid (Hps.okCl_used h.cs)
      go_enter Tryd.func47, Tryd.ntmps47
      go_wp2_with fail
      refine (usedSet_any _ _ _ h.cs _ r0.cells (by omega)).mono ?_
      rintro e w1 ⟨rfl, b1⟩
      obtain ⟨V, hVe⟩ : ∃ V, Hps.usedW h.cs = V := ⟨_, rfl⟩
      rw [hVe] at hV HOR HOC ⊢
      have bb1 := b0.trans (b1.mono b0.size)
      have hw1 := hw0.keep b1 (by simp)
      clear r0 hw0 hVe b1
      have z0 : w1.cell? ⟨w.heap.size, 0, none⟩ = some (.slice A n c) := hw1.cell 0
      go_wp2_with fail
      go_loopw [22] (fun i wr => ∃ k : Nat, k ≤ n ∧ i = .int .i64 k ∧ Hid (∀ j cl, j < k → h.cs[j]? = some cl → Hps.okCell h.cs cl = true) ∧ Below w.heap.size w wr ∧ Rw wr w.heap.size 26 #[.slice A n c, .slice R 4 d]) (fun i _ => n - (intOf i).toNat)
      case atStart => exact ⟨0, Nat.zero_le _, rfl, Lib.hid (fun j x hj => by omega), bb1, hw1⟩
      case round =>
        clear bb1 hw1 z0
        obtain ⟨k, hk, rfl, HP, bb, hw⟩ := hrel
        have z1 : wr.cell? ⟨w.heap.size, 1, none⟩ = some (.slice R 4 d) := hw.cell 1
        by_cases hlt : k < n
        · obtain ⟨g, o, cl, A', m', cc, e1, hg, hcl, d1, d2, d3, hmc, hi⟩ := hs.cells.at_ hlt
          subst e1
          replace d1 := (bb.cell (p := ⟨g, o + k * 3, none⟩) hg).trans d1
          replace d2 := (bb.cell (p := ⟨g, o + k * 3 + 1, none⟩) hg).trans d2
          replace d3 := (bb.cell (p := ⟨g, o + k * 3 + 2, none⟩) hg).trans d3
          have hlt' : (k : Int) < n := by omega
          have HCL := Lib.hid hcl
          have HM := Lib.hid hi.1
          have bW := bb.alloc bb.size (.cells #[.bool cl.u, .int .i64 cl.d, .slice A' m' cc] 43)
          have hwW := hw.alloc (.cells #[.bool cl.u, .int .i64 cl.d, .slice A' m' cc] 43)
          have hiW := (hi.below bW).more bW.size
          clear hcl
          go_wp2_with fail
          refine (cellValid_any cl A' m' cc V _ hiW hV).mono ?_
          rw [HOC.out]
          cases hok : Hps.okCell h.cs cl
          · have HR := Lib.hid (Hps.invalid_cell HCL.out hok)
            rintro e w2 ⟨rfl, b2⟩
            have bn := bW.trans (b2.mono bW.size)
            go_wp2_with fail
            go_ret
            exact ⟨by rw [HR.out]; rfl, bn⟩
          · have HN : Hid (∀ j c', j < k + 1 → h.cs[j]? = some c' → Hps.okCell h.cs c' = true) := Lib.hid fun j y hj hy => by
              rcases Nat.lt_or_ge j k with h1 | h1
              · exact HP.out j y h1 hy
              · obtain rfl : j = k := by omega
                rw [HCL.out] at hy
                injection hy with hy
                rw [← hy]
                exact hok
            clear hok
            rintro e w2 ⟨rfl, b2⟩
            have bn := bW.trans (b2.mono bW.size)
            have hwn := hwW.keep b2 hwW.lt
            go_wp2_with fail
            go_roundw
            case rel => exact ⟨k + 1, by omega, by go_num, HN, bn, hwn⟩
            case measure => simp [intOf]; omega
        · obtain rfl : k = n := by omega
          have hall : ∀ cl ∈ h.cs, Hps.okCell h.cs cl = true := fun cl hcl => by
            obtain ⟨j, hj⟩ := List.mem_iff_getElem?.1 hcl
            exact HP.out j cl (by rw [← hlc]; exact (List.getElem?_eq_some_iff.1 hj).1) hj
          have HR := Lib.hid (show Hps.validH h = Hps.okRefs h.cs h.rt by rw [Hps.valid_all hall, hlc, hlr, decide_eq_true h40]; simp)
          have rr := (hs.roots.below bb).more bb.size
          clear hall
          go_wp2_with fail
          refine (hasTargets_any _ _ _ V h.rt _ rr hV (by omega)).mono ?_
          rintro e w2 ⟨rfl, rfl⟩
          go_wp2_with fail
          go_ret
          exact ⟨by rw [HR.out, ← HOR.out]; rfl, bb⟩
    · have h40' : (n : Int) ≤ 40 := by omega
      have h4' : ((m : Int) != 4) = true := by rw [bne_iff_ne]; omega
      have HR := Lib.hid (show Hps.validH h = false by
        cases hv : Hps.validH h
        · rfl
        · have := (Hps.valid_iff.1 hv).2.2.1
          omega)
      clear h4
      go_enter Tryd.func47, Tryd.ntmps47
      go_wp2_with fail
      go_ret
      exact ⟨by rw [HR.out]; rfl, b0⟩
  · have h40' : ¬ (n : Int) ≤ 40 := by omega
    have h40'' : (40 : Int) < n := by omega
    have HR := Lib.hid (show Hps.validH h = false by
      cases hv : Hps.validH h
      · rfl
      · have := (Hps.valid_iff.1 hv).2.1
        omega)
    go_enter Tryd.func47, Tryd.ntmps47
    go_wp2_with fail
    go_ret
    exact ⟨by rw [HR.out]; rfl, b0⟩
end Go.Proofs.YtfgdenmlfloloaaDoor

namespace Go.Proofs.YtfgdenmlfloloaaDoor
open Go.RowKit
set_option maxRecDepth 100000
namespace Hps
theorem pc_succ (V k : Nat) : pcN V (k + 1) = pcN V k + (if V.testBit k = true then 1 else 0) := by
  unfold pcN
  rw [List.range_succ, List.countP_append, List.countP_singleton]
theorem pc_same {V W n : Nat} (h : ∀ i, i < n → V.testBit i = W.testBit i) : pcN V n = pcN W n := by
  unfold pcN
  apply List.countP_congr
  intro i hi
  rw [h i (List.mem_range.1 hi)]
theorem or_bit (V k i : Nat) : (V ||| 2 ^ k).testBit i = (V.testBit i || decide (k = i)) := by rw [Nat.testBit_or, Nat.testBit_two_pow]
theorem pc_mark {V k : Nat} (h : V.testBit k = false) : ∀ {n : Nat}, k < n → pcN (V ||| 2 ^ k) n = pcN V n + 1
  | 0, hn => by omega
  | n + 1, hn => by
    rw [pc_succ, pc_succ, or_bit]
    by_cases e : k = n
    · subst e
      rw [h, pc_same (W := V) fun i hi => by rw [or_bit, decide_eq_false (show ¬ k = i by omega), Bool.or_false]]
      simp
    · rw [pc_mark h (show k < n by omega), decide_eq_false e, Bool.or_false]
      omega
/-- cells and references into them: small, and each -1 or the number of a used cell -/
structure OkG (h : Hp) : Prop where
  len : h.cs.length ≤ 40
  few : h.rt.length ≤ 40
  small : ∀ c ∈ h.cs, c.r.length ≤ 3
  rts : okRefs h.cs h.rt = true
  rfs : ∀ c ∈ h.cs, okRefs h.cs c.r = true
theorem OkG.valid {h : Hp} (hv : validH h = true) : OkG h := ⟨(valid_small hv).1, by rw [(valid_small hv).2.1]; omega, (valid_small hv).2.2, (valid_iff.1 hv).2.2.2, valid_refs hv⟩
theorem OkG.one {h : Hp} (hv : OkG h) {k : Nat} (hk : usedAt h.cs k = true) : OkG ⟨h.cs, [(k : Int)]⟩ :=
  ⟨hv.len, by simp, hv.small, okRefs_iff.2 fun x hx => by rw [List.mem_singleton] at hx; subst hx; exact okRef_iff.2 (.inr ⟨by omega, by simpa using hk⟩), hv.rfs⟩
/-- a work list beside the set of what has been reached -/
structure Stk (h : Hp) (V : Nat) (l : List Int) : Prop where
  lo : V < 2 ^ h.cs.length
  rch : ∀ k : Nat, V.testBit k = true → Rch h.cs h.rt k
  lst : ∀ x ∈ l, x = -1 ∨ ∃ k : Nat, x = k ∧ Rch h.cs h.rt k
  roots : ∀ k : Nat, (k : Int) ∈ h.rt → V.testBit k = true ∨ (k : Int) ∈ l
  step : ∀ (k m : Nat) (c : Cl), V.testBit k = true → h.cs[k]? = some c → (m : Int) ∈ c.r → V.testBit m = true ∨ (m : Int) ∈ l
  len : l.length ≤ 40 + 4 * pcN V h.cs.length
theorem Stk.start {h : Hp} (hv : OkG h) : Stk h 0 h.rt := by
  refine ⟨Nat.pow_pos (by omega), fun k hk => by simp at hk, fun x hx => ?_, fun k hk => .inr hk, fun k m c hk => by simp at hk, by have := hv.few; omega⟩
  rcases okRef_iff.1 (okRefs_iff.1 hv.rts x hx) with h1 | ⟨h1, _⟩
  · exact .inl h1
  · exact .inr ⟨x.toNat, by omega, .root (by rwa [show ((x.toNat : Nat) : Int) = x by omega])⟩
/-- the last of the list is a cell that had not been reached -/
theorem Stk.mark {h : Hp} (hv : OkG h) {V k : Nat} {l : List Int} {c : Cl} (s : Stk h V (l ++ [(k : Int)])) (hk : V.testBit k = false) (hc : h.cs[k]? = some c) : Stk h (V ||| 2 ^ k) (l ++ c.r) := by
  have hlt : k < h.cs.length := (List.getElem?_eq_some_iff.1 hc).1
  have hr : Rch h.cs h.rt k := by
    rcases s.lst (k : Int) (by simp) with h1 | ⟨j, h1, h2⟩
    · omega
    · rwa [show k = j by omega]
  have hm : ∀ j : Nat, V.testBit j = true ∨ (j : Int) ∈ l ++ [(k : Int)] → (V ||| 2 ^ k).testBit j = true ∨ (j : Int) ∈ l ++ c.r := fun j hj => by
    rw [or_bit]
    rcases hj with hj | hj
    · left; rw [hj]; rfl
    · rw [List.mem_append, List.mem_singleton] at hj
      rcases hj with hj | hj
      · right; simp [hj]
      · left; simp; right; omega
  refine ⟨Nat.or_lt_two_pow s.lo (Nat.pow_lt_pow_right (by omega) hlt), fun j hj => ?_, fun x hx => ?_, fun j hj => hm j (s.roots j hj), fun j m c' h1 h2 h3 => ?_, ?_⟩
  · rw [or_bit] at hj
    rw [Bool.or_eq_true, decide_eq_true_eq] at hj
    rcases hj with hj | hj
    · exact s.rch j hj
    · rwa [← hj]
  · rw [List.mem_append] at hx
    rcases hx with hx | hx
    · exact s.lst x (by simp [hx])
    · rcases okRef_iff.1 (okRefs_iff.1 (hv.rfs c (List.mem_of_getElem? hc)) x hx) with h1 | ⟨h1, _⟩
      · exact .inl h1
      · exact .inr ⟨x.toNat, by omega, .step hr hc (by rwa [show ((x.toNat : Nat) : Int) = x by omega])⟩
  · rw [or_bit, Bool.or_eq_true, decide_eq_true_eq] at h1
    rcases h1 with h1 | h1
    · exact hm m (s.step j m c' h1 h2 h3)
    · subst h1
      rw [hc] at h2
      injection h2 with h2
      subst h2
      right
      simp [h3]
  · rw [pc_mark hk hlt]
    have := s.len
    have h3 := hv.small c (List.mem_of_getElem? hc)
    simp at this
    simp
    omega
/-- a cell of the list is there -/
theorem Stk.at_ {h : Hp} (hv : OkG h) {V : Nat} {l : List Int} {x : Int} (s : Stk h V (l ++ [x])) (h1 : x ≠ -1) : ∃ k : Nat, x = k ∧ k < h.cs.length := by
  rcases s.lst x (by simp) with h2 | ⟨k, h2, h3⟩
  · exact absurd h2 h1
  · exact ⟨k, h2, usedAt_lt (h3.used hv.rts hv.rfs)⟩
/-- the set of what can be reached -/
noncomputable def reachW (h : Hp) : Nat := Bm.wordN (reachL h.cs h.rt) true
theorem Stk.fin {h : Hp} {V : Nat} (s : Stk h V []) : V = reachW h := by
  apply Nat.eq_of_testBit_eq
  intro k
  unfold reachW
  rw [Bm.wordN_bit, Bool.eq_iff_iff, decide_eq_true_eq]
  rcases Nat.lt_or_ge k h.cs.length with hk | hk
  · rw [reachL_true hk]
    refine ⟨s.rch k, fun hr => Rch.inside (S := fun k => V.testBit k = true) (fun j hj => ?_) (fun j m c h1 h2 h3 => ?_) hr⟩
    · simpa using s.roots j hj
    · simpa using s.step j m c h1 h2 h3
  · have e1 : V.testBit k = false := Nat.testBit_lt_two_pow (Nat.lt_of_lt_of_le s.lo (Nat.pow_le_pow_right (by omega) hk))
    rw [e1, List.getElem?_eq_none (by rw [reachL_len]; exact hk)]
    simp
end Hps
namespace Pc
end Pc
end Go.Proofs.YtfgdenmlfloloaaDoor

namespace Go.Proofs.YtfgdenmlfloloaaDoor
open Go.RowKit
set_option maxRecDepth 100000
theorem cloneI_any (A : Option Addr) (n c : Nat) (xs : List Int) (w : World) (h : IS w w.heap.size A n xs) (hn : n ≤ 1099511627776) :
    Calls Tryd.prog 60 #[.slice A n c] w (GaveI w xs) := by
  have q : ∀ (w : World) (a : Option Addr) (n c n' c' : Nat), (binOp .eql 24 (.slice a n c) (.slice none n' c')).run Tryd.prog w = .ok (.bool a.isNone) w := fun w a n c n' c' => Lib.run_eql_slice_nil w _ _ a n c n' c' Tryd.underlying24
  cases A with
  | none =>
    have h0 : n = 0 := by
      rcases Nat.eq_zero_or_pos n with h0 | h0
      · exact h0
      · obtain ⟨g, o, e, _⟩ := h.2 h0
        cases e
    have : xs = [] := List.eq_nil_of_length_eq_zero (h.1.trans h0)
    subst this h0
    go_enter Tryd.func60, Tryd.ntmps60
    go_wp2
    go_ret
    exact ⟨_, rfl, World.ownsRow_nil _ _ _ _, Below.refl _ _⟩
  | some a =>
    have o0 := own_noneI w w.heap.size (Nat.le_refl _)
    have bl0 : Below w.heap.size w (w.alloc (.cells #[] 3)) := (Below.refl _ _).alloc (Nat.le_refl _) _
    have r0 := h.below bl0
    go_enter Tryd.func60, Tryd.ntmps60
    go_wp2_with (at_builtin; refine wpList_appendI rfl (.tmp 5) (.tmp 6) rfl w.heap.size _ [] rfl o0 (some a) n c w.heap.size xs rfl r0 (by simp <;> omega) (by simp) ?_; intro v1 w1 o1 g1 s1)
    go_ret
    exact ⟨_, rfl, OwnI.cast (by simp) o1, bl0.grown g1 (by simp) (fun k hk => (World.ownsRow.lt o0 k hk).1)⟩
/-- a slice of the call's own is cut short -/
theorem OwnI.cut {w : World} {base n c k : Nat} {A : Option Addr} {xs : List Int} (h : OwnI w base (.slice A n c) xs) (hk : k ≤ n) : OwnI w base (.slice A k c) (xs.take k) := by
  have hl : (xs.take k).length = k := by rw [List.length_take, ← h.cap.1]; omega
  unfold OwnI
  rw [hl]
  refine ⟨by rw [List.length_map, hl, Nat.mul_one], ?_⟩
  rcases h.2 with ⟨e, h0⟩ | ⟨g, cap, cur, e, hb, hh, hnc, hcap, hsz, hx⟩
  · injection e with e1 e2 e3
    subst e1 e3
    left
    have : k = 0 := by omega
    rw [this]
    exact ⟨rfl, rfl⟩
  · injection e with e1 e2 e3
    subst e1 e3
    right
    refine ⟨g, c, cur, rfl, hb, hh, by omega, hcap, hsz, ?_⟩
    rw [List.map_take, ← hx, Nat.mul_one, Nat.mul_one, List.take_take, Nat.min_eq_left (by omega)]
namespace Hps
end Hps
end Go.Proofs.YtfgdenmlfloloaaDoor

namespace Go.Proofs.YtfgdenmlfloloaaDoor
open Go.RowKit
set_option maxRecDepth 100000
/-- k times -1, then 0 -/
def rep4 (k : Nat) : List Value := List.replicate k (.int .i64 (-1)) ++ List.replicate (4 - k) (.int .i64 0)
def RowK (w : World) (g k : Nat) : Prop := w.heap[g]? = some (.cells (rep4 k).toArray 3 (0, 0))
theorem RowK.cell {w : World} {g k j : Nat} (h : RowK w g k) (hj : j < k) : w.cell? ⟨g, j, none⟩ = some (.int .i64 (-1)) := by
  have : (rep4 k)[j]? = some (.int .i64 (-1)) := by
    unfold rep4
    rw [List.getElem?_append_left (by simpa using hj)]
    simp [hj]
  have e : w.cell? ⟨g, j, none⟩ = (rep4 k).toArray[j]? := Rw.cell (cs := (rep4 k).toArray) h j
  rw [e]
  simpa using this
theorem RowK.put {w : World} {g k : Nat} (h : RowK w g k) (j : Nat) : RowK (w.setRow g (rep4 j).toArray) g j := setRow_heap w g _ _ _ _ h
end Go.Proofs.YtfgdenmlfloloaaDoor

namespace Go.Proofs.YtfgdenmlfloloaaDoor
open Go.RowKit
set_option maxRecDepth 100000
set_option maxHeartbeats 1000000 in
/-- one more list of references is counted -/
theorem countTargetsC_any (g n cn q cq : Nat) (F : Option Addr) (cs : List Cl) (xs rs : List Int) (w : World) (B : Nat) (hcs : cs.length = n) (ho : OwnI w B (.slice (some ⟨g, 0, none⟩) n cn) (Hps.cntN n xs)) (hf : IS w B F q rs) (hok : Hps.okRefs cs rs = true)
    (_hn : n ≤ 1000000) (hq : q ≤ 1000000) (hx : xs.length ≤ 1000000000) (hg : B ≤ g) (_hB : B ≤ w.heap.size) :
    Calls Tryd.prog 137 #[.slice (some ⟨g, 0, none⟩) n cn, .slice F q cq] w fun e w' => e = .returned (.tuple #[]) ∧ OwnI w' B (.slice (some ⟨g, 0, none⟩) n cn) (Hps.cntN n (xs ++ rs)) ∧ Below B w w' ∧ World.grownBy w w' (some g) := by
  have hG := World.grownBy.refl w (some g)
  have hlr := hf.1
  have HO := Lib.hid hok
  clear hok
  go_enter Tryd.func137, Tryd.ntmps137
  go_wp2_with fail
  go_loopw [8] (fun i wr => ∃ k : Nat, k ≤ q ∧ i = .int .i64 k ∧ OwnI wr B (.slice (some ⟨g, 0, none⟩) n cn) (Hps.cntN n (xs ++ rs.take k)) ∧ Below B w wr ∧ World.grownBy w wr (some g)) (fun i _ => q - (intOf i).toNat)
  case atStart => exact ⟨0, Nat.zero_le _, rfl, by rw [List.take_zero, List.append_nil]; exact ho, Below.refl _ _, hG⟩
  case round =>
    clear ho hG
    obtain ⟨k, hk, rfl, ho, bb, hG⟩ := hrel
    by_cases hlt : k < q
    · obtain ⟨gr, or, x, e2, hgr, hx1, d0⟩ := hf.at_ hlt
      subst e2
      have d1 := (bb.cell (p := ⟨gr, or + k, none⟩) hgr).trans d0
      have hltk : (k : Int) < q := by omega
      have HT := Lib.hid (take_snocI hx1)
      have hok := Hps.okRefs_at HO.out hx1
      clear d0
      by_cases hm1 : x = -1
      · subst hm1
        have HTN := Lib.hid (show Hps.cntN n (xs ++ rs.take (k + 1)) = Hps.cntN n (xs ++ rs.take k) by rw [HT.out, ← List.append_assoc]; exact Hps.cntN_neg (by omega))
        clear hok hx1
        go_wp2_with fail
        go_roundw
        case rel => exact ⟨k + 1, by omega, by go_num, by rw [HTN.out]; exact ho, bb, hG⟩
        case measure => simp [intOf]; omega
      · have hne : (x != -1) = true := by rw [bne_iff_ne]; exact hm1
        have hx0 : 0 ≤ x := by have := Hps.okRef_lo hok; omega
        obtain ⟨y, rfl, hy, _⟩ := Hps.okRef_nat hok hx0
        rw [hcs] at hy
        obtain ⟨g', o', v, e1, _, hv, c1⟩ := ho.reads.at_ (k := y) hy
        injection e1 with e1
        injection e1 with e2 e3
        subst e2 e3
        rw [Nat.zero_add] at c1
        rw [Hps.cntN_at _ hy] at hv
        injection hv with hv
        have hvl := Hps.count_le_len (xs ++ rs.take k) (y : Int)
        rw [List.length_append, List.length_take] at hvl
        have hv0 : 0 ≤ v := by omega
        have hv1 : v ≤ 10000000000000 := by omega
        have fz : wr.frozen? ⟨g, y, none⟩ = false := ho.frozen (Hps.cntN_len _ _) y
        have hy' : (y : Int) < n := by omega
        have HV := Lib.hid hv
        have hu : IntKind.i64.wrap (v + 1) = v + 1 := IntWalk.i64_in _ (by omega)
        have on : OwnI (wr.setCell ⟨g, y, none⟩ (.int .i64 (v + 1))) B (.slice (some ⟨g, 0, none⟩) n cn) (Hps.cntN n (xs ++ rs.take (k + 1))) := by
          rw [HT.out, ← List.append_assoc, ← Hps.cntN_set hy, HV.out]
          exact ho.put' (Hps.cntN_len _ _) (v + 1)
        have bn := bb.setCell (p := ⟨g, y, none⟩) hg (.int .i64 (v + 1))
        have gn := only_put hG y (.int .i64 (v + 1))
        clear hx1 hok hv hvl hm1
        go_wp2_with fail
        go_roundw
        case rel => exact ⟨k + 1, by omega, by go_num, on, bn, gn⟩
        case measure => simp [intOf]; omega
    · obtain rfl : k = q := by omega
      rw [List.take_of_length_le (by omega)] at ho
      go_wp2_with fail
      exact bodyPost_end (results_none rfl _ _ _) rfl ⟨rfl, ho, bb, hG⟩
theorem countTargets_any (g n q cq : Nat) (F : Option Addr) (cs : List Cl) (xs rs : List Int) (w : World) (B : Nat) (hcs : cs.length = n) (ho : OwnI w B (.slice (some ⟨g, 0, none⟩) n n) (Hps.cntN n xs)) (hf : IS w B F q rs) (hok : Hps.okRefs cs rs = true)
    (hn : n ≤ 1000000) (hq : q ≤ 1000000) (hx : xs.length ≤ 1000000000) (hg : B ≤ g) (hB : B ≤ w.heap.size) :
    Calls Tryd.prog 137 #[.slice (some ⟨g, 0, none⟩) n n, .slice F q cq] w fun e w' => e = .returned (.tuple #[]) ∧ OwnI w' B (.slice (some ⟨g, 0, none⟩) n n) (Hps.cntN n (xs ++ rs)) ∧ Below B w w' :=
  (countTargetsC_any g n n q cq F cs xs rs w B hcs ho hf hok hn hq hx hg hB).mono fun _ _ h => ⟨h.1, h.2.1, h.2.2.1⟩
namespace Hps
/-- the references of the roots and of those of the first i cells that are not in the set -/
def outW (h : Hp) (V : Nat) : Nat → List Int
  | 0 => h.rt
  | i + 1 => outW h V i ++ (if V.testBit i = true then [] else match h.cs[i]? with | some c => c.r | none => [])
theorem outW_in {h : Hp} {V i : Nat} (hs : V.testBit i = true) : outW h V (i + 1) = outW h V i := by rw [outW, if_pos hs, List.append_nil]
theorem outW_out {h : Hp} {V i : Nat} {c : Cl} (hs : V.testBit i = false) (hc : h.cs[i]? = some c) : outW h V (i + 1) = outW h V i ++ c.r := by rw [outW, if_neg (by rw [hs]; decide), hc]
theorem outW_zero (h : Hp) : ∀ i, i ≤ h.cs.length → outW h 0 i = refsTo h i
  | 0, _ => by rw [refsTo_zero]; rfl
  | i + 1, hi => by
    have hc := List.getElem?_eq_getElem (show i < h.cs.length by omega)
    rw [outW_out (by simp) hc, refsTo_succ hc, outW_zero h i (by omega)]
theorem outW_len (h : Hp) (V : Nat) : ∀ i, i ≤ h.cs.length → (outW h V i).length ≤ (refsTo h i).length
  | 0, _ => by rw [refsTo_zero]; exact Nat.le_refl _
  | i + 1, hi => by
    have ih := outW_len h V i (by omega)
    have hc := List.getElem?_eq_getElem (show i < h.cs.length by omega)
    rw [refsTo_succ hc, List.length_append]
    cases e : V.testBit i
    · rw [outW_out e hc, List.length_append]
      omega
    · rw [outW_in e]
      omega
end Hps
set_option maxHeartbeats 2000000 in
theorem countsWithout_any (A R : Option Addr) (n c m d V : Nat) (h : Hp) (w : World) (hs : HS w w.heap.size A n R m h) (hv : Hps.validH h = true) (hVl : V < 18446744073709551616) :
    Calls Tryd.prog 115 #[heapV A n c R m d, .int .u64 V] w (GaveI w (Hps.cntN n (Hps.outW h V n))) := by
  have hlc := hs.cells.1
  have hlr := hs.roots.1
  obtain ⟨s1, s2, s3⟩ := Hps.valid_small hv
  have HRF := Lib.hid (Hps.valid_refs hv)
  have HRO := Lib.hid (Hps.valid_iff.1 hv).2.2.2
  have HS3 := Lib.hid s3
  have HTO := Lib.hid (fun i hi => Nat.le_trans (Hps.outW_len h V i hi) (Hps.refsTo_len (h := h) (fun cl hcl => by have := HS3.out cl hcl; omega) (k := i) hi))
  have b0 : Below w.heap.size w (w.alloc (.cells #[.slice A n c, .slice R m d] 26)) := (Below.refl _ _).alloc (Nat.le_refl _) _
  have hw1 := Rw.new w 26 #[.slice A n c, .slice R m d]
  clear hv s3
  obtain ⟨w1, hw1e⟩ : ∃ w1, w.alloc (.cells #[.slice A n c, .slice R m d] 26) = w1 := ⟨_, rfl⟩
  have r1 := hs.up b0
  rw [hw1e] at b0 hw1 r1
  have z0 : w1.cell? ⟨w.heap.size, 0, none⟩ = some (.slice A n c) := hw1.cell 0
  have z1 : w1.cell? ⟨w.heap.size, 1, none⟩ = some (.slice R m d) := hw1.cell 1
  have hwl := hw1.lt
  have hmk := makeI w1 n (by omega)
  have b2 : Below w1.heap.size w1 (w1.alloc (.cells (Array.replicate n (.int .i64 0)) 3)) := (Below.refl _ _).alloc (Nat.le_refl _) _
  have o2 := own_madeI w1 n (by omega)
  rw [← Hps.cntN_nil] at o2
  obtain ⟨w2, hw2⟩ : ∃ w2, w1.alloc (.cells (Array.replicate n (.int .i64 0)) 3) = w2 := ⟨_, rfl⟩
  rw [hw2] at hmk b2 o2
  obtain ⟨B, hB⟩ : ∃ B, w1.heap.size = B := ⟨_, rfl⟩
  have hB2 : B ≤ w2.heap.size := by have := b2.size; omega
  have f2 := r1.roots.below b2
  have hbw : w.heap.size ≤ B := by omega
  have C1 := r1.cells
  rw [hB] at hmk b2 o2 f2 hwl C1
  have y0 : w2.cell? ⟨w.heap.size, 0, none⟩ = some (.slice A n c) := (b2.cell (p := ⟨w.heap.size, 0, none⟩) hwl).trans z0
  have y1 : w2.cell? ⟨w.heap.size, 1, none⟩ = some (.slice R m d) := (b2.cell (p := ⟨w.heap.size, 1, none⟩) hwl).trans z1
  clear hw2
  go_enter Tryd.func115, Tryd.ntmps115
  go_wp2_with fail
  refine (countTargets_any B n m d R h.cs [] h.rt _ B hlc o2 f2 HRO.out (by omega) (by omega) (by simp) (Nat.le_refl _) hB2).mono ?_
  rintro e w3 ⟨rfl, o3, b3⟩
  rw [List.nil_append] at o3
  have bb3 := b2.trans b3
  clear o2 f2 b3 y0 y1 hmk
  have y0 : w3.cell? ⟨w.heap.size, 0, none⟩ = some (.slice A n c) := (bb3.cell (p := ⟨w.heap.size, 0, none⟩) hwl).trans z0
  go_wp2_with fail
  go_loopw [19] (fun i wr => ∃ k : Nat, k ≤ n ∧ i = .int .i64 k ∧ OwnI wr B (.slice (some ⟨B, 0, none⟩) n n) (Hps.cntN n (Hps.outW h V k)) ∧ Below B w1 wr) (fun i _ => n - (intOf i).toNat)
  case atStart => exact ⟨0, Nat.zero_le _, rfl, o3, bb3⟩
  case round =>
    clear o3 bb3 y0
    obtain ⟨k, hk, rfl, ho, bb⟩ := hrel
    by_cases hlt : k < n
    · obtain ⟨g, o, cl, A', m', cc, e1, hg, hcl, d1, d2, d3, hmc, hi⟩ := C1.at_ hlt
      subst e1
      replace d1 := (bb.cell (p := ⟨g, o + k * 3, none⟩) hg).trans d1
      replace d2 := (bb.cell (p := ⟨g, o + k * 3 + 1, none⟩) hg).trans d2
      replace d3 := (bb.cell (p := ⟨g, o + k * 3 + 2, none⟩) hg).trans d3
      have hlt' : (k : Int) < n := by omega
      have hsz : B ≤ wr.heap.size := by have := bb.size; omega
      have bW := bb.alloc hsz (.cells #[.bool cl.u, .int .i64 cl.d, .slice A' m' cc] 43)
      have oW := World.ownsRow.alloc ho (.cells #[.bool cl.u, .int .i64 cl.d, .slice A' m' cc] 43)
      have fW := hi.below bW
      have hm3 : m' ≤ 3 := by have := HS3.out cl (List.mem_of_getElem? hcl); have := hi.1; omega
      have hok := HRF.out cl (List.mem_of_getElem? hcl)
      have HOK := Lib.hid hok
      have HB := Lib.hid (show Hps.hasB V (k : Int) = V.testBit k by simp [Hps.hasB])
      cases hbit : V.testBit k
      · have HSU := Lib.hid (Hps.outW_out hbit hcl)
        have HBF := Lib.hid (HB.out.trans hbit)
        have hrl : (Hps.outW h V k).length ≤ 1000000000 := by have := HTO.out k (by omega); omega
        clear hcl hok hbit HB
        go_wp2_with fail
        refine (has_any V k _ hVl).mono ?_
        rw [HBF.out]
        rintro e w4 ⟨rfl, rfl⟩
        go_wp2_with fail
        refine (countTargets_any B n m' cc A' h.cs (Hps.outW h V k) cl.r _ B hlc oW fW HOK.out (by omega) (by omega) hrl (Nat.le_refl _) (by simp; omega)).mono ?_
        rintro e w5 ⟨rfl, o5, b5⟩
        rw [← HSU.out] at o5
        have bn := bW.trans b5
        go_wp2_with fail
        go_roundw
        case rel => exact ⟨k + 1, by omega, by go_num, o5, bn⟩
        case measure => simp [intOf]; omega
      · have HSU := Lib.hid (Hps.outW_in (h := h) hbit)
        have HBF := Lib.hid (HB.out.trans hbit)
        clear hcl hok hbit HB
        go_wp2_with fail
        refine (has_any V k _ hVl).mono ?_
        rw [HBF.out]
        rintro e w4 ⟨rfl, rfl⟩
        go_wp2_with fail
        go_roundw
        case rel => exact ⟨k + 1, by omega, by go_num, by rw [HSU.out]; exact oW, bW⟩
        case measure => simp [intOf]; omega
    · obtain rfl : k = n := by omega
      go_wp2_with fail
      go_ret
      exact ⟨_, rfl, ho.base (by omega), b0.trans (bb.mono (by omega))⟩
set_option maxHeartbeats 1000000 in
theorem refCounts_any (A R : Option Addr) (n c m d : Nat) (h : Hp) (w : World) (hs : HS w w.heap.size A n R m h) (hn : n ≤ 1099511627776) (hm : m ≤ 1099511627776) (hc : n ≤ c) (hd : m ≤ d) :
    Calls Tryd.prog 75 #[heapV A n c R m d] w (GaveI w (Hps.countsH h)) := by
  have hlc := hs.cells.1
  have b0 : Below w.heap.size w (w.alloc (.cells #[.slice A n c, .slice R m d] 26)) := (Below.refl _ _).alloc (Nat.le_refl _) _
  have r0 := hs.up b0
  have hw0 := Rw.new w 26 #[.slice A n c, .slice R m d]
  cases hv : Hps.validH h
  · have HR := Lib.hid (show Hps.countsH h = [] by rw [Hps.countsH, hv]; rfl)
    have HV := Lib.hid hv
    clear hv
    go_enter Tryd.func75, Tryd.ntmps75
    go_wp2_with fail
    refine (heapValid_any _ _ _ _ _ _ h _ r0 hn hm hc hd).mono ?_
    rw [HV.out]
    rintro e w1 ⟨rfl, b1⟩
    have bb1 := b0.trans (b1.mono b0.size)
    go_wp2_with fail
    go_ret
    exact ⟨_, rfl, by rw [HR.out]; exact World.ownsRow_nil _ _ _ _, bb1⟩
  · have HR := Lib.hid (show Hps.cntN n (Hps.outW h 0 n) = Hps.countsH h by rw [Hps.countsH, hv, if_pos rfl, Hps.outW_zero h n (by omega), Hps.countsL_eq, hlc, ← Hps.refsTo_all, hlc])
    have HV := Lib.hid hv
    clear hv
    go_enter Tryd.func75, Tryd.ntmps75
    go_wp2_with fail
    refine (heapValid_any _ _ _ _ _ _ h _ r0 hn hm hc hd).mono ?_
    rw [HV.out]
    rintro e w1 ⟨rfl, b1⟩
    have bb1 := b0.trans (b1.mono b0.size)
    have r1 := r0.up b1
    have hw1 := hw0.keep b1 (by simp)
    have z0 : w1.cell? ⟨w.heap.size, 0, none⟩ = some (.slice A n c) := hw1.cell 0
    have z1 : w1.cell? ⟨w.heap.size, 1, none⟩ = some (.slice R m d) := hw1.cell 1
    clear r0 hw0
    go_wp2_with fail
    refine (countsWithout_any A R n c m d 0 h _ r1 HV.out (by omega)).mono ?_
    rintro e w2 ⟨v2, rfl, o2, b2⟩
    rw [HR.out] at o2
    go_wp2_with fail
    go_ret
    exact ⟨_, rfl, o2.base bb1.size, bb1.trans (b2.mono bb1.size)⟩
end Go.Proofs.YtfgdenmlfloloaaDoor

namespace Go.Proofs.YtfgdenmlfloloaaDoor
open Go.RowKit
set_option maxRecDepth 100000
/-- counts and a queue of the call's own -/
def GaveQ (w : World) (ks Q : List Int) (e : Ending) (w' : World) : Prop := ∃ vk vq, e = .returned (.agg #[vk, vq]) ∧ OwnI w' w.heap.size vk ks ∧ OwnQ w' w.heap.size vq Q ∧ (vk.ownBlock = none ∨ vk.ownBlock ≠ vq.ownBlock) ∧ Below w.heap.size w w'
theorem OwnQ.grown {w w' : World} {bs : Nat} {v : Value} {xs : List Int} (h : OwnQ w bs v xs) (hk : ∀ j, j < w.heap.size → w'.heap[j]? = w.heap[j]?) : OwnQ w' bs v xs := by
  rcases h with h0 | ⟨g, o, cap, cur, e, hb', hh, hr⟩
  · exact .inl h0
  · exact .inr ⟨g, o, cap, cur, e, hb', (hk g (Array.getElem?_eq_some_iff.1 hh).1).trans hh, hr⟩
/-- counts and a queue go into a new box -/
theorem FqSt.of {w : World} {B : Nat} {vk vq : Value} {ks Q : List Int} (ok : OwnI w B vk ks) (oq : OwnQ w B vq Q) (hs : vk.ownBlock = none ∨ vk.ownBlock ≠ vq.ownBlock) (hB : B ≤ w.heap.size) :
    FqSt (w.alloc (.cells #[vk, vq] 140)) B w.heap.size vk vq ks Q := by
  have b0 : Below w.heap.size w (w.alloc (.cells #[vk, vq] 140)) := (Below.refl _ _).alloc (Nat.le_refl _) _
  exact ⟨ok.below b0 (Nat.le_refl _), oq.below b0 (Nat.le_refl _), hs, Rw.new w 140 #[vk, vq], hB⟩
theorem FqSt.alloc {wr : World} {B b : Nat} {vk vq : Value} {ks Q : List Int} (S : FqSt wr B b vk vq ks Q) (o : Obj) : FqSt (wr.alloc o) B b vk vq ks Q := S.keep (fun j _ hj => Below.heap_alloc _ _ j hj)
set_option maxHeartbeats 2000000 in
theorem queueOf_any (A R : Option Addr) (n c m d : Nat) (h : Hp) (w : World) (hs : HS w w.heap.size A n R m h) (hv : Hps.validH h = true) (hc : n ≤ c) (hd : m ≤ d) :
    Calls Tryd.prog 107 #[heapV A n c R m d] w (GaveQ w (Hps.countsL h) (Hps.idleL h n)) := by
  have hlc := hs.cells.1
  have hlr := hs.roots.1
  obtain ⟨s1, s2, s3⟩ := Hps.valid_small hv
  have HR := Lib.hid (show Hps.countsH h = Hps.countsL h by rw [Hps.countsH, hv]; rfl)
  have HCL := Lib.hid (fun (k : Nat) (hk : k < h.cs.length) => Hps.counts_at hk)
  have B2 : Below w.heap.size w ((w.alloc (.cells #[.slice A n c, .slice R m d] 26)).alloc (.cells #[.slice none 0 0, .slice none 0 0] 140)) := ((Below.refl _ _).alloc (Nat.le_refl _) _).alloc (by simp) _
  have Q1 := (Rw.new w 26 #[.slice A n c, .slice R m d]).alloc (.cells #[.slice none 0 0, .slice none 0 0] 140)
  have Q2 := Rw.new (w.alloc (.cells #[.slice A n c, .slice R m d] 26)) 140 #[.slice none 0 0, .slice none 0 0]
  simp only [World.size_alloc] at Q2
  have S2 := hs.up B2
  clear hv s3
  go_enter Tryd.func107, Tryd.ntmps107
  go_upto_region 1 with fail
  generalize ((w.alloc (.cells #[.slice A n c, .slice R m d] 26)).alloc (.cells #[.slice none 0 0, .slice none 0 0] 140)) = w2 at B2 Q1 Q2 S2 ⊢
  have hz := Q2.lt
  have y0 : w2.cell? ⟨w.heap.size, 0, none⟩ = some (.slice A n c) := Q1.cell 0
  have y1 : w2.cell? ⟨w.heap.size, 1, none⟩ = some (.slice R m d) := Q1.cell 1
  go_wp2_with fail
  refine (refCounts_any _ _ _ _ _ _ h _ S2 (by omega) (by omega) hc hd).mono ?_
  rw [HR.out]
  rintro e w3 ⟨vk, rfl, o3, b3⟩
  obtain ⟨K, ck, rfl, -⟩ := o3.form
  rw [show (Hps.countsL h).length = n by rw [Hps.countsL_eq, Hps.cntN_len, hlc]] at o3 ⊢
  have F0 := FqSt.of o3 (vq := .slice none 0 0) (Q := []) (.inl ⟨rfl, rfl⟩) (by
    cases K with
    | none => exact .inl rfl
    | some a => exact .inr (by simp [Value.ownBlock])) b3.size
  have T1 := Q1.keep b3 (by omega)
  have T2 := Q2.keep b3 hz
  have bb : Below w2.heap.size w2 (w3.alloc (.cells #[.slice K n ck, .slice none 0 0] 140)) := b3.alloc b3.size _
  have z0 : (w3.alloc (.cells #[.slice K n ck, .slice none 0 0] 140)).cell? ⟨w.heap.size, 0, none⟩ = some (.slice A n c) := (bb.cell (p := ⟨w.heap.size, 0, none⟩) (by show w.heap.size < _; omega)).trans y0
  have hb3 := b3.size
  have HK := Lib.hid (show ∀ (k : Nat), k < n → ∃ g, K = some ⟨g, 0, none⟩ from fun k hk => by
    rcases o3.2 with ⟨e, h0⟩ | ⟨g, cap, cur, e, _⟩
    · injection e with e1 e2 e3
      omega
    · injection e with e1
      exact ⟨g, e1⟩)
  have C2 := S2.cells
  clear o3 T1 T2 Q1 b3 y0 y1 S2 hs
  go_upto_block 0 with fail
  generalize w3.alloc (.cells #[.slice K n ck, .slice none 0 0] 140) = w4 at F0 bb z0 ⊢
  generalize w3.heap.size = b at F0 hb3 ⊢
  clear w3
  go_wp2_with fail
  go_loopw [12] (fun i wr => ∃ (k : Nat) (vq : Value), k ≤ n ∧ i = .int .i64 k ∧ FqSt wr w2.heap.size b (.slice K n ck) vq (Hps.countsL h) (Hps.idleL h k) ∧ Below w2.heap.size w2 wr) (fun i _ => n - (intOf i).toNat)
  case atStart => exact ⟨0, _, Nat.zero_le _, rfl, F0, bb⟩
  case round =>
    clear F0 bb z0
    obtain ⟨k, vq, hk, rfl, S, bb⟩ := hrel
    by_cases hlt : k < n
    · obtain ⟨g, o, cl, A', m', cc, e1, hg, hcl, d1, d2, d3, hmc, -⟩ := C2.at_ hlt
      subst e1
      replace d1 := (bb.cell (p := ⟨g, o + k * 3, none⟩) hg).trans d1
      replace d2 := (bb.cell (p := ⟨g, o + k * 3 + 1, none⟩) hg).trans d2
      replace d3 := (bb.cell (p := ⟨g, o + k * 3 + 2, none⟩) hg).trans d3
      have hlt' : (k : Int) < n := by omega
      have bW := bb.alloc bb.size (.cells #[.bool cl.u, .int .i64 cl.d, .slice A' m' cc] 43)
      have SW := S.alloc (.cells #[.bool cl.u, .int .i64 cl.d, .slice A' m' cc] 43)
      have hu := Hps.usedAt_is hcl
      cases hcu : cl.u
      · rw [hcu] at d1 bW SW hu
        have HI := Lib.hid (Hps.idleL_no (h := h) (k := k) (.inl hu))
        clear hcl hu hcu S
        go_wp2_with fail
        go_roundw
        case rel => exact ⟨k + 1, vq, by omega, by go_num, by rw [HI.out]; exact SW, bW⟩
        case measure => simp [intOf]; omega
      · rw [hcu] at d1 bW SW hu
        obtain ⟨gk, e1⟩ := HK.out k hlt
        subst e1
        obtain ⟨g', o', v, e1, _, hv, c1⟩ := SW.own.reads.at_ (k := k) hlt
        injection e1 with e1
        injection e1 with e2 e3
        subst e2 e3
        rw [Nat.zero_add] at c1
        rw [HCL.out k (by omega)] at hv
        obtain ⟨m9, hm9⟩ : ∃ m9, (Hps.refsOf h).count (k : Int) = m9 := ⟨_, rfl⟩
        rw [hm9] at hv
        obtain rfl : (m9 : Int) = v := Option.some.inj hv
        have x0 : (wr.alloc (.cells #[.bool true, .int .i64 cl.d, .slice A' m' cc] 43)).cell? ⟨b, 0, none⟩ = some (.slice (some ⟨gk, 0, none⟩) n ck) := SW.box.cell 0
        have x1 : (wr.alloc (.cells #[.bool true, .int .i64 cl.d, .slice A' m' cc] 43)).cell? ⟨b, 1, none⟩ = some vq := SW.box.cell 1
        by_cases hm0 : m9 = 0
        · have HI := Lib.hid (Hps.idleL_yes (h := h) (k := k) hu (List.count_eq_zero.1 (by omega)))
          have hm0' : ((m9 : Int) == 0) = true := by simp [hm0]
          have hql := Hps.idleL_len h k
          have SA := SW.alloc (.cells #[.int .i64 k] 3)
          have RN := Rw.new (wr.alloc (.cells #[.bool true, .int .i64 cl.d, .slice A' m' cc] 43)) 3 #[.int .i64 k]
          rw [show (wr.alloc (.cells #[.bool true, .int .i64 cl.d, .slice A' m' cc] 43)).heap.size = wr.heap.size + 1 by simp] at RN
          have cn : ((wr.alloc (.cells #[.bool true, .int .i64 cl.d, .slice A' m' cc] 43)).alloc (.cells #[.int .i64 k] 3)).cell? ⟨wr.heap.size + 1, 0, none⟩ = some (.int .i64 k) := RN.cell 0
          have hsz := bb.size
          have hwl : w2.heap.size ≤ ((wr.alloc (.cells #[.bool true, .int .i64 cl.d, .slice A' m' cc] 43)).alloc (.cells #[.int .i64 k] 3)).heap.size := by simp; omega
          have bna := bW.alloc (show w2.heap.size ≤ (wr.alloc (.cells #[.bool true, .int .i64 cl.d, .slice A' m' cc] 43)).heap.size by simp; omega) (.cells #[.int .i64 k] 3)
          clear hm0 hcl hu hcu S hm9 hv
          go_wp2_with (at_builtin; refine wpList_appendQ rfl (.tmp 28) (.tmp 30) rfl w2.heap.size _ (Hps.idleL h k) rfl SA.que (wr.heap.size + 1) 1 (k : Int) rfl cn (by omega) hwl ?_; intro v5 w5 o5 g5 s5; replace g5 : World.grownBy _ w5 vq.ownBlock := g5; replace s5 : v5.ownBlock = vq.ownBlock ∨ v5.ownBlock = some (World.heap _).size := s5; have S5 := Lib.hid (SA.app o5 g5 s5); have hbx := Rw.far SA.box g5 (que_type SA.que SA.box (by decide)); have f5 : w5.frozen? ⟨b, 1, none⟩ = false := hbx.frozen 1; have z5 : w5.cell? ⟨b, 1, none⟩ = some vq := hbx.cell 1; have bn5 := (bna.grown g5 hwl (fun k hk => (SA.que.lt k hk).1)).setCell (p := ⟨b, 1, none⟩) SA.lo v5; obtain ⟨A5, c5, e5⟩ := o5.form; generalize (Hps.idleL h k ++ [(k : Int)]).length = l5 at e5; clear o5 g5 s5 hbx; subst e5)
          go_roundw
          case rel => exact ⟨k + 1, _, by omega, by go_num, by rw [HI.out]; exact S5.out, bn5⟩
          case measure => simp [intOf]; omega
        · have HI := Lib.hid (Hps.idleL_no (h := h) (k := k) (.inr (List.count_pos_iff.1 (by omega))))
          have hm0' : ((m9 : Int) == 0) = false := by rw [beq_eq_false_iff_ne]; omega
          clear hm0 hcl hu hcu S hm9 hv
          go_wp2_with fail
          go_roundw
          case rel => exact ⟨k + 1, vq, by omega, by go_num, by rw [HI.out]; exact SW, bW⟩
          case measure => simp [intOf]; omega
    · obtain rfl : k = n := by omega
      have x0 : wr.cell? ⟨b, 0, none⟩ = some (.slice K k ck) := S.box.cell 0
      have x1 : wr.cell? ⟨b, 1, none⟩ = some vq := S.box.cell 1
      obtain ⟨A5, c5, e5⟩ := S.que.form
      generalize (Hps.idleL h k).length = l5 at e5
      subst e5
      have T := Q2.keep bb hz
      have r2 : wr.frozen? ⟨w.heap.size + 1, 0, none⟩ = false := T.frozen 0
      have r3 : wr.frozen? ⟨w.heap.size + 1, 1, none⟩ = false := T.frozen 1
      have r5 : wr.cell? ⟨w.heap.size + 1, 0, none⟩ = some (.slice none 0 0) := T.cell 0
      have r6 : wr.cell? ⟨w.heap.size + 1, 1, none⟩ = some (.slice none 0 0) := T.cell 1
      have T4 := (T.put 0 (.slice K k ck)).put 1 (.slice A5 l5 c5)
      have r8 : ((wr.setCell ⟨w.heap.size + 1, 0, none⟩ (.slice K k ck)).setCell ⟨w.heap.size + 1, 1, none⟩ (.slice A5 l5 c5)).cell? ⟨w.heap.size + 1, 0, none⟩ = some (.slice K k ck) := T4.cell 0
      have r9 : ((wr.setCell ⟨w.heap.size + 1, 0, none⟩ (.slice K k ck)).setCell ⟨w.heap.size + 1, 1, none⟩ (.slice A5 l5 c5)).cell? ⟨w.heap.size + 1, 1, none⟩ = some (.slice A5 l5 c5) := T4.cell 1
      have SF := Lib.hid S
      have hs2 := B2.size
      clear S T T4 C2
      go_wp2_with fail
      have SS := SF.out.keep (w1 := (wr.setCell ⟨w.heap.size + 1, 0, none⟩ (.slice K k ck)).setCell ⟨w.heap.size + 1, 1, none⟩ (.slice A5 l5 c5)) (fun j hj _ => by rw [Below.heap_setCell _ _ _ _ (by show j ≠ w.heap.size + 1; omega), Below.heap_setCell _ _ _ _ (by show j ≠ w.heap.size + 1; omega)])
      exact bodyPost_ret (v := .agg #[.slice K k ck, .slice A5 l5 c5]) (by simp [results, Tryd.results107, go_sem, *]) rfl ⟨_, _, rfl, SS.own.base (by omega), SS.que.base (by omega), SS.sep, ((B2.trans (bb.mono hs2)).setCell (p := ⟨w.heap.size + 1, 0, none⟩) (by show w.heap.size ≤ w.heap.size + 1; omega) _).setCell (p := ⟨w.heap.size + 1, 1, none⟩) (by show w.heap.size ≤ w.heap.size + 1; omega) _⟩
end Go.Proofs.YtfgdenmlfloloaaDoor

namespace Go.Proofs.YtfgdenmlfloloaaDoor
open Go.RowKit
set_option maxRecDepth 100000
section
variable {w0 wr w1 : World} {b B g : Nat} {vc vr : Value} {rvs : List Value} {h : Hp}
theorem row_keepB {w w' : World} {base n s : Nat} {e : TypeId} {v : Value} {xs : List Value} (h : w.ownsRow base e s v n xs) (hb : Below B w w') (hv : ∀ k, v.ownBlock = some k → k < B) : w'.ownsRow base e s v n xs := by
  refine ⟨h.1, ?_⟩
  rcases h.2 with h0 | ⟨g, cap, cur, rfl, hb', hh, hr⟩
  · exact .inl h0
  · exact .inr ⟨g, cap, cur, rfl, hb', (hb.block g (hv g rfl)).trans hh, hr⟩
/-- a heap in a box all of whose blocks lie below B stays when all below B stays -/
theorem BoxSt.keepB (S : BoxSt w0 wr b vc vr rvs h) (hb : Below B wr w1) (hv : ∀ v ∈ vc :: vr :: rvs, ∀ k, v.ownBlock = some k → k < B) (hlt : b < B) : BoxSt w0 w1 b vc vr rvs h := by
  have hlo := S.lo
  exact ⟨⟨S.own.len, row_keepB S.own.row hb (hv vc (by simp)), fun k c v hc hk => row_keepB (S.own.refs k c v hc hk) hb (hv v (by simp [List.mem_of_getElem? hk])), row_keepB S.own.roots hb (hv vr (by simp)), S.own.sep⟩, S.apart, (hb.block b hlt).trans S.box, S.low.trans (hb.mono (by omega)), hlo⟩
end
set_option maxHeartbeats 2000000 in
theorem freeLost_any (w0 : World) (b : Nat) (vc vr : Value) (rvs : List Value) (h : Hp) (w : World) (S0 : BoxSt w0 w b vc vr rvs h) (hv : Hps.validH h = true) :
    Calls Tryd.prog 61 #[.pointer (some ⟨b, 0, none⟩)] w fun e w' => ∃ vk rvs', e = .returned vk ∧ BoxSt w0 w' b vc vr rvs' (Hps.freeH h) ∧ (∀ v ∈ vc :: vr :: rvs', ∀ k, v.ownBlock = some k → k < w.heap.size) ∧ OwnI w' w.heap.size vk (Hps.countsL (Hps.freeH h)) := by
  obtain ⟨A, c, R, d, rfl, rfl, hc, hd, -⟩ := S0.own.form
  obtain ⟨n, hn⟩ : ∃ n, h.cs.length = n := ⟨_, rfl⟩
  obtain ⟨V1, V2, V3, V4⟩ := Hps.valid_iff.1 hv
  rw [hn, V3] at S0 ⊢
  rw [hn] at hc V2
  rw [V3] at hd
  have HB0 := Lib.hid (fun (v : Value) (hv : v ∈ (Value.slice A n c) :: (Value.slice R 4 d) :: rvs) (k : Nat) (hk : v.ownBlock = some k) => (S0.own.blocks hv hk).2)
  have x0 : w.cell? ⟨b, 0, none⟩ = some (.slice A n c) := S0.box.cell 0
  have x1 : w.cell? ⟨b, 1, none⟩ = some (.slice R 4 d) := S0.box.cell 1
  have hbl := S0.box.lt
  have HV := Lib.hid hv
  have HN := Lib.hid hn
  have HSS := Lib.hid S0
  have HRD := Lib.hid (show HS w w.heap.size A n R 4 h from S0.own.reads)
  clear hv hn V1 V3 V4 S0
  go_enter Tryd.func61, Tryd.ntmps61
  go_wp2_with fail
  refine (queueOf_any _ _ _ _ _ _ h _ HRD.out HV.out hc hd).mono ?_
  rintro e w3 ⟨vk, vq, rfl, ok, oq, hsep, b3⟩
  obtain ⟨K, ck, rfl, -⟩ := ok.form
  obtain ⟨Qa, qc, rfl⟩ := oq.form
  rw [show (Hps.countsL h).length = n by rw [Hps.countsL_eq, Hps.cntN_len, HN.out]] at ok hsep ⊢
  have hb3 := b3.size
  have F0 := FqSt.of ok oq hsep hb3
  have hql := Hps.idleL_len h n
  have bb := b3.alloc hb3 (.cells #[.slice K n ck, .slice Qa (Hps.idleL h n).length qc] 140)
  clear ok oq hsep x0 x1
  go_upto_block 0 with fail
  generalize w3.alloc (.cells #[.slice K n ck, .slice Qa (Hps.idleL h n).length qc] 140) = w4 at F0 bb ⊢
  generalize w3.heap.size = q at F0 hb3 ⊢
  clear b3
  have S4 := HSS.out.keepB bb HB0.out hbl
  have HW0 := Lib.hid (Hps.Waits.start h)
  rw [HN.out] at HW0
  have HU0 := Hps.usedN_lt h
  rw [HN.out] at HU0
  generalize Hps.idleL h n = Q0 at F0 hql HW0 ⊢
  generalize (Value.slice Qa Q0.length qc) = vq0 at F0 ⊢
  go_wp2_with fail
  go_loopw [4] (fun _ ww => ∃ (x : Hp) (rvs : List Value) (vq : Value) (Q : List Int), FqSt ww w.heap.size q (.slice K n ck) vq (Hps.countsL x) Q ∧ BoxSt w0 ww b (.slice A n c) (.slice R 4 d) rvs x ∧ Hid (∀ v ∈ (Value.slice A n c) :: (Value.slice R 4 d) :: rvs, ∀ k, v.ownBlock = some k → k < w.heap.size) ∧ Hid (Hps.Frees h x) ∧ Hid (Hps.validH x = true) ∧ Hid (Hps.Waits x Q) ∧ Q.length + 3 * Hps.usedN x ≤ 200) (fun _ ww => usedW ww A n)
  case atStart => exact ⟨h, rvs, vq0, Q0, F0, S4, HB0, Lib.hid (Hps.Frees.refl h), HV, HW0, by omega⟩
  case round =>
    clear F0 S4 bb HW0 HU0 hql
    obtain ⟨x, rv, vq, Q, F, S, HB, FR, HX, HW, hlen⟩ := hrel
    obtain ⟨X1, X2, X3, X4⟩ := Hps.valid_iff.1 HX.out
    have hxl : x.cs.length = n := S.own.reads.cells.1
    cases Q with
    | nil =>
      have hE := F.que.form
      obtain ⟨Qb, qb, rfl⟩ := hE
      have z0 : wr.cell? ⟨q, 0, none⟩ = some (.slice K n ck) := F.box.cell 0
      have z1 : wr.cell? ⟨q, 1, none⟩ = some (.slice Qb 0 qb) := F.box.cell 1
      have HE : x = Hps.freeH h := FR.out.fin HV.out (fun j hj => Classical.not_not.1 fun hq => by
        have := (HW.out.mem (j : Int)).2 ⟨j, rfl, hj, hq⟩
        cases this)
      rw [HE] at S F
      have SH := Lib.hid S
      have FH := Lib.hid F.own
      clear HE S F HW X1 X2 X3 X4
      go_wp2_with fail
      go_ret
      exact ⟨_, rv, rfl, SH.out, HB.out, FH.out⟩
    | cons t Q =>
      obtain ⟨k, rfl, hku, hkn⟩ := (HW.out.mem t).1 (by simp)
      obtain ⟨Qb, qb, e5⟩ := F.que.form
      have hkl : k < n := by have := Hps.usedAt_lt hku; omega
      obtain ⟨old, hold⟩ : ∃ old, x.cs[k]? = some old := ⟨_, List.getElem?_eq_getElem (by omega)⟩
      have z1 : wr.cell? ⟨q, 1, none⟩ = some vq := F.box.cell 1
      have hk1 : (k : Int) < n := by omega
      have hqp : decide ((0 : Int) < (((k : Int) :: Q).length : Nat)) = true := by simp
      subst e5
      go_wp2_with fail
      refine (next_any _ _ _ _ _ _ _ _ F).mono ?_
      rintro e w5 ⟨rfl, vq5, F5, b5⟩
      have S5 := S.keepB b5 HB.out hbl
      have y0 : w5.cell? ⟨b, 0, none⟩ = some (.slice A n c) := S5.box.cell 0
      obtain ⟨gc, v, e4, hgc1, hgc2, hrv, ho, c0, c1, c2, fz⟩ := S5.own.cell_at hold
      subst e4
      have f0 := fz (k * 3)
      have f1 := fz (k * 3 + 1)
      have f2 := fz (k * 3 + 2)
      have hgB : gc < w.heap.size := HB.out (.slice (some ⟨gc, 0, none⟩) n c) (by simp) gc rfl
      have SN := S5.cell (cl := Hps.freeCl) (rv := .slice none 0 0) hxl hold (World.ownsRow_nil _ _ _ _) (fun _ _ => .inl rfl) (.inl rfl)
      have FN := F5.keep (w1 := ((w5.setCell ⟨gc, k * 3, none⟩ (.bool false)).setCell ⟨gc, k * 3 + 1, none⟩ (.int .i64 0)).setCell ⟨gc, k * 3 + 2, none⟩ (.slice none 0 0)) (fun j hj _ => by rw [Below.heap_setCell _ _ _ _ (by show j ≠ gc; omega), Below.heap_setCell _ _ _ _ (by show j ≠ gc; omega), Below.heap_setCell _ _ _ _ (by show j ≠ gc; omega)])
      have hvg : v.ownBlock = none ∨ v.ownBlock ≠ some gc := S5.own.apart_cells v (by simp [List.mem_of_getElem? hrv])
      have ho2 := ((ho.far (put_any w5 gc (k * 3) (.bool false)) hvg).far (put_any _ gc (k * 3 + 1) (.int .i64 0)) hvg).far (put_any _ gc (k * 3 + 2) (.slice none 0 0)) hvg
      obtain ⟨vA, vc9, rfl, -⟩ := ho.form
      have hvB := HB.out (.slice vA old.r.length vc9) (by simp [List.mem_of_getElem? hrv])
      have hrf : IS (((w5.setCell ⟨gc, k * 3, none⟩ (.bool false)).setCell ⟨gc, k * 3 + 1, none⟩ (.int .i64 0)).setCell ⟨gc, k * 3 + 2, none⟩ (.slice none 0 0)) w.heap.size vA old.r.length old.r := by
        have hr := ho2.reads
        refine ⟨hr.1, fun hpos => ?_⟩
        obtain ⟨g', o', e6, _, h8⟩ := hr.2 hpos
        exact ⟨g', o', e6, hvB g' (by rw [e6]; rfl), h8⟩
      have hvalid := Hps.okCell_iff.1 (Hps.valid_cell HX.out hold)
      have hr3 := hvalid.2.2.1
      have hrn : ∀ t ∈ old.r, t = -1 ∨ ∃ y : Nat, t = y ∧ y < n := fun t ht => by
        rcases Hps.okRef_iff.1 (Hps.okRefs_iff.1 hvalid.2.2.2 t ht) with e | ⟨e, hu⟩
        · exact .inl e
        · obtain ⟨y, rfl⟩ := Int.eq_ofNat_of_zero_le e
          refine .inr ⟨y, rfl, ?_⟩
          have := Hps.usedAt_lt hu
          omega
      have hBl : (Hps.refsOf (Hps.freeK x k)).length ≤ 1000000000 := by
        obtain ⟨t1, t2, t3⟩ := Hps.valid_small (Hps.freeK_valid HX.out hkn)
        have := Hps.refsTo_len (h := Hps.freeK x k) (fun cl hcl => by have := t3 cl hcl; omega) _ (Nat.le_refl _)
        rw [Hps.refsTo_all] at this
        omega
      rw [Hps.counts_free hold, hxl] at FN
      have HNX := Lib.hid (HW.out.next HX.out hold)
      have HFN := Lib.hid (FR.out.free (by omega) hkn)
      have HVN := Lib.hid (Hps.freeK_valid HX.out hkn)
      have HUF := Lib.hid (Hps.usedN_free hku)
      have HU := Lib.hid (show usedW wr (some ⟨gc, 0, none⟩) n = Hps.usedN x from usedW_eq S.own.reads.cells)
      have hll := Hps.lost_len (Hps.refsOf (Hps.freeK x k)) old.r
      have SNH := Lib.hid SN
      have HBN := Lib.hid (show ∀ v ∈ (Value.slice (some ⟨gc, 0, none⟩) n c) :: (Value.slice R 4 d) :: (rv.set k (.slice none 0 0)), ∀ k, v.ownBlock = some k → k < w.heap.size from fun u hu j hj => by
        simp only [List.mem_cons] at hu
        rcases hu with rfl | rfl | hu
        · exact HB.out _ (by simp) j hj
        · exact HB.out _ (by simp) j hj
        · rcases List.mem_or_eq_of_mem_set hu with hu | rfl
          · exact HB.out u (by simp [hu]) j hj
          · cases hj)
      clear F S S5 SN ho ho2 X1 X2 X3 X4 hvalid hvB hvg fz hku hkn hold hrv HX HW FR
      go_wp2_with fail
      refine (lose_any w.heap.size q n old.r.length vc9 vA _ vq5 (Hps.refsOf (Hps.freeK x k)) Q old.r _ FN hrf hrn (by omega) (by omega) hBl (by simp at hlen; omega)).mono ?_
      rintro e w7 ⟨rfl, vq7, F7, b7⟩
      have S7 := SNH.out.keepB b7 HBN.out hbl
      have HMs := usedW_eq S7.own.reads.cells
      have h7 := HUF.out
      have h8 := HU.out
      simp only [List.length_cons] at hlen
      go_wp2_with fail
      refine ⟨⟨Hps.freeK x k, _, vq7, _, ?_, S7, HBN, HFN, HVN, HNX, ?_⟩, ?_⟩
      · rw [Hps.counts_freed, hxl]
        exact F7
      · rw [List.length_append]
        omega
      · rw [h8]
        refine Nat.lt_of_le_of_lt (Nat.le_of_eq HMs) ?_
        change Hps.usedN (Hps.freeK x k) < _
        omega
end Go.Proofs.YtfgdenmlfloloaaDoor

namespace Go.Proofs.YtfgdenmlfloloaaDoor
open Go.RowKit
/-- the table of math/bits lies as laid -/
def TzT (w : World) : Prop := 0 < w.heap.size ∧ ∀ i : Nat, i < 64 → w.cell? ⟨0, i, none⟩ = some (.int .u8 (Lib.deBruijn64tab.getD i 0 : Nat))
theorem TzT.below {w w' : World} (h : TzT w) (hb : Below w.heap.size w w') : TzT w' := ⟨Nat.lt_of_lt_of_le h.1 hb.size, fun i hi => (hb.cell (p := ⟨0, i, none⟩) h.1).trans (h.2 i hi)⟩
namespace Bm
theorem tz_key (x : Nat) (hx : x < 18446744073709551616) (hx0 : x ≠ 0) : ∃ idx : Nat, idx < 64 ∧ IntKind.u64.wrap (bits BinOp.and IntKind.u64 (x : Int) (IntKind.u64.wrap (-(x : Int))) * 285870213051353865) / 288230376151711744 = (idx : Int) ∧ Lib.deBruijn64tab.getD idx 0 = Lib.ctz 64 x ∧ Lib.ctz 64 x < 64 := by
  obtain ⟨hlow, hk⟩ := Lib.lowest_bit 64 x hx0 hx
  obtain ⟨hi, htab⟩ := Lib.deBruijn64_at _ hk
  refine ⟨_, hi, ?_, htab, hk⟩
  have e1 : IntKind.u64.wrap (-(x : Int)) = ((18446744073709551616 - x : Nat) : Int) := by rw [IntKind.wrap_u64]; omega
  have hl2 : x &&& (18446744073709551616 - x) = 2 ^ Lib.ctz 64 x := hlow
  rw [e1, u64_and_nat x _ hx (by omega), hl2, IntKind.wrap_u64]
  generalize 2 ^ Lib.ctz 64 x = a
  omega
end Bm
set_option maxHeartbeats 1000000 in
theorem tz64_any (x : Nat) (w : World) (hT : TzT w) (h0 : x ≠ 0) (h1 : x < 18446744073709551616) :
    Calls Tryd.prog 103 #[.int .u64 x] w fun e w' => e = .returned (.int .i64 (Lib.ctz 64 x)) ∧ w = w' := by
  obtain ⟨idx, hi, key, htab, hk⟩ := Bm.tz_key x h1 h0
  have hcell := hT.2 idx hi
  rw [htab] at hcell
  have hx0 : ((x : Int) == 0) = false := by rw [beq_eq_false_iff_ne]; omega
  obtain ⟨k, hkk⟩ : ∃ k, Lib.ctz 64 x = k := ⟨_, rfl⟩
  rw [hkk] at hcell hk ⊢
  clear htab hkk
  go_enter Tryd.func103, Tryd.ntmps103
  go_wp2_with (simp only [key])
  go_ret
  exact ⟨rfl, rfl⟩
end Go.Proofs.YtfgdenmlfloloaaDoor

namespace Go.Proofs.YtfgdenmlfloloaaDoor
open Go.RowKit
set_option maxRecDepth 100000
namespace Hps
end Hps
set_option maxHeartbeats 1000000 in
theorem firstOutside_any (S : Nat) (w : World) (hT : TzT w) (hS : S < 18446744073709551615) :
    Calls Tryd.prog 105 #[.int .u64 S] w fun e w' => e = .returned (.int .i64 (Lib.ctz 64 (18446744073709551615 - S))) ∧ w = w' := by
  have hx : bits .xor .u64 IntKind.u64.max (S : Int) = ((18446744073709551615 - S : Nat) : Int) := by
    rw [show IntKind.u64.max = ((18446744073709551615 : Nat) : Int) from rfl, u64_xor_nat _ _ (by omega) (by omega)]
    congr 1
    apply Nat.eq_of_testBit_eq
    intro i
    rw [Nat.testBit_xor, show 18446744073709551615 - S = 2 ^ 64 - (S + 1) by omega, Nat.testBit_two_pow_sub_succ (by omega), show (18446744073709551615 : Nat) = 2 ^ 64 - 1 from rfl, Nat.testBit_two_pow_sub_one]
    by_cases hi : i < 64
    · simp [hi]
    · have : S.testBit i = false := Nat.testBit_lt_two_pow (Nat.lt_of_lt_of_le hS (Nat.le_trans (by decide : 18446744073709551615 ≤ 2 ^ 64) (Nat.pow_le_pow_right (by decide) (by omega))))
      simp [hi, this]
  have hX := Lib.hid hx
  clear hx
  go_enter Tryd.func105, Tryd.ntmps105
  go_wp2_with fail
  rw [hX.out]
  refine (tz64_any _ w hT (by omega) (by omega)).mono ?_
  rintro e w1 ⟨rfl, rfl⟩
  go_wp2_with fail
  go_ret
  exact ⟨rfl, rfl⟩
end Go.Proofs.YtfgdenmlfloloaaDoor

namespace Go.Proofs.YtfgdenmlfloloaaDoor
open Go.RowKit
set_option maxRecDepth 100000
theorem own_noneC (w : World) (base : Nat) (hb : base ≤ w.heap.size) : (w.alloc (.cells #[] 43)).ownsRow base 43 3 (.slice (some ⟨w.heap.size, 0, none⟩) 0 0) 0 [] :=
  World.ownsRow_lit (base := base) (e := 43) (size := 3) w #[] 0 hb (by unfold maxLen; omega) rfl
theorem wpList_appendCs {w : World} {ops : Array Oper} {rest : List Oper} {o : Oper} {a : Act} {Q : Exit → Act → World → Prop} (hgd : o.guard = none) (s x : Operand)
    (ho : o.op = .call { callee := .builtin .append, args := #[s, x], argTypes := #[23, 23] })
    (base : Nat) (v : Value) (n : Nat) (vs : List Value) (hs : a.eval s = v) (hown : w.ownsRow base 43 3 v n vs) (A : Option Addr) (m c : Nat) (ys : List Value) (hx : a.eval x = .slice A m c) (hl : ys.length = m * 3)
    (hA : 0 < m → ∃ ad, A = some ad ∧ ∀ j u, ys[j]? = some u → w.cell? (ad.add j) = some u) (h1 : ∀ u ∈ ys, u.oneCell' = true) (hn : n + m ≤ 1099511627776) (hbase : base ≤ w.heap.size)
    (h : ∀ v' w', w'.ownsRow base 43 3 v' (n + m) (vs ++ ys) → w.grownBy w' v.ownBlock → (v'.ownBlock = v.ownBlock ∨ v'.ownBlock = some w.heap.size) → wpList Tryd.prog ops Q rest (a.put o.dst v') w') : wpList Tryd.prog ops Q (o :: rest) a w :=
  wpList_plain hgd fun _ hK => app_stepCs hgd s x ho base v n vs hs hown A m c ys hx hl hA h1 hn hbase fun v' w' e1 e2 e3 => hK _ _ (h v' w' e1 e2 e3)
/-- cells, copied whole -/
theorem cloneC_any (A : Option Addr) (n c : Nat) (cs : List Cl) (rvs : List Value) (w : World) (hl : cs.length = n) (hr : RefsAt w w.heap.size cs rvs)
    (hA : 0 < n → ∃ g o, A = some ⟨g, o, none⟩ ∧ g < w.heap.size ∧ ∀ (j : Nat) (u : Value), (flatC cs rvs)[j]? = some u → w.cell? ⟨g, o + j, none⟩ = some u) (hn : n ≤ 1099511627776) :
    Calls Tryd.prog 114 #[.slice A n c] w fun e w' => ∃ v, e = .returned v ∧ w'.ownsRow w.heap.size 43 3 v n (flatC cs rvs) ∧ Below w.heap.size w w' := by
  have q : ∀ (w : World) (a : Option Addr) (n c n' c' : Nat), (binOp .eql 23 (.slice a n c) (.slice none n' c')).run Tryd.prog w = .ok (.bool a.isNone) w := fun w a n c n' c' => Lib.run_eql_slice_nil w _ _ a n c n' c' Tryd.underlying23
  have hfl := flatC_length _ _ hr.1
  rw [hl] at hfl
  cases A with
  | none =>
    have h0 : n = 0 := by
      rcases Nat.eq_zero_or_pos n with h0 | h0
      · exact h0
      · obtain ⟨g, o, e, _⟩ := hA h0
        cases e
    subst h0
    have hnil : flatC cs rvs = [] := List.eq_nil_of_length_eq_zero (by omega)
    rw [hnil]
    clear hfl hA hr
    go_enter Tryd.func114, Tryd.ntmps114
    go_wp2
    go_ret
    exact ⟨_, rfl, World.ownsRow_nil _ _ _ _, Below.refl _ _⟩
  | some a =>
    have o0 := own_noneC w w.heap.size (Nat.le_refl _)
    have bl0 : Below w.heap.size w (w.alloc (.cells #[] 43)) := (Below.refl _ _).alloc (Nat.le_refl _) _
    have hone := hr.one
    obtain ⟨ys, hys⟩ : ∃ ys, flatC cs rvs = ys := ⟨_, rfl⟩
    rw [hys] at hA hfl hone ⊢
    have hA2 : 0 < n → ∃ ad, some a = some ad ∧ ∀ (j : Nat) (u : Value), ys[j]? = some u → (w.alloc (.cells #[] 43)).cell? (ad.add j) = some u := fun h0 => by
      obtain ⟨g, o, e, hg, hc⟩ := hA h0
      refine ⟨a, rfl, fun j u hu => ?_⟩
      rw [Option.some.inj e, add_lit]
      exact (bl0.cell (p := ⟨g, o + j, none⟩) hg).trans (hc j u hu)
    clear hr hA hys hl
    go_enter Tryd.func114, Tryd.ntmps114
    go_wp2_with (at_builtin; refine wpList_appendCs rfl (.tmp 5) (.tmp 6) rfl w.heap.size _ 0 [] rfl o0 (some a) n c ys rfl hfl hA2 hone (by omega) (by simp) ?_; intro v1 w1 o1 g1 s1)
    go_ret
    refine ⟨_, rfl, ?_, bl0.grown g1 (by simp) (fun k hk => (World.ownsRow.lt o0 k hk).1)⟩
    simpa using o1
/-- a copy of which the first k cells have references of their own; the others share theirs still -/
structure MidH (w : World) (base : Nat) (vc vr : Value) (ovs rvs : List Value) (k : Nat) (h : Hp) : Prop where
  len : ovs.length = k
  le : k ≤ h.cs.length
  all : rvs.length = h.cs.length
  row : w.ownsRow base 43 3 vc h.cs.length (flatC h.cs (ovs ++ rvs.drop k))
  refs : ∀ (j : Nat) (c : Cl) (v : Value), h.cs[j]? = some c → ovs[j]? = some v → OwnI w base v c.r
  roots : OwnI w base vr h.rt
  sep : Sep (vc :: vr :: ovs)
section
variable {w w' : World} {base k : Nat} {vc vr v : Value} {ovs rvs : List Value} {h : Hp}
theorem MidH.below (S : MidH w base vc vr ovs rvs k h) {B : Nat} (hb : Below B w w') (hB : w.heap.size ≤ B) : MidH w' base vc vr ovs rvs k h :=
  ⟨S.len, S.le, S.all, row_below S.row hb hB, fun j c v hc hv => (S.refs j c v hc hv).below hb hB, S.roots.below hb hB, S.sep⟩
theorem MidH.blocks (S : MidH w base vc vr ovs rvs k h) {v : Value} (hv : v ∈ vc :: vr :: ovs) {b : Nat} (hb : v.ownBlock = some b) : base ≤ b ∧ b < w.heap.size := by
  simp only [List.mem_cons] at hv
  rcases hv with rfl | rfl | hv
  · exact World.ownsRow.lt S.row b hb
  · exact World.ownsRow.lt S.roots b hb
  · obtain ⟨i, hi⟩ := List.mem_iff_getElem?.1 hv
    have hlt := (List.getElem?_eq_some_iff.1 hi).1
    have hc := List.getElem?_eq_getElem (show i < h.cs.length by have := S.len; have := S.le; omega)
    exact World.ownsRow.lt (S.refs i _ v hc hi) b hb
/-- what lies in no block of the copy's is apart from it -/
theorem MidH.apart_new (S : MidH w base vc vr ovs rvs k h) {b : Nat} (hb : w.heap.size ≤ b) : Apart (some b) (vc :: vr :: ovs) := fun v hv => by
  cases e : v.ownBlock with
  | none => exact .inl rfl
  | some q =>
    right
    have := (S.blocks hv e).2
    intro he
    have he := Option.some.inj he
    omega
theorem MidH.far (S : MidH w base vc vr ovs rvs k h) {row : Option Nat} (hg : w.grownBy w' row) (ha : Apart row (vc :: vr :: ovs)) : MidH w' base vc vr ovs rvs k h :=
  ⟨S.len, S.le, S.all, World.ownsRow.kept S.row hg (ha vc (by simp)), fun j c v hc hv => (S.refs j c v hc hv).far hg (ha v (by simp [List.mem_of_getElem? hv])), S.roots.far hg (ha vr (by simp)), S.sep⟩
theorem MidH.base' (S : MidH w base vc vr ovs rvs k h) {b : Nat} (hb : b ≤ base) : MidH w b vc vr ovs rvs k h :=
  ⟨S.len, S.le, S.all, row_base S.row hb, fun j c v hc hv => (S.refs j c v hc hv).base hb, S.roots.base hb, S.sep⟩
/-- the next cell gets references of its own -/
theorem MidH.next {g n c : Nat} {cl : Cl} (S : MidH w base (.slice (some ⟨g, 0, none⟩) n c) vr ovs rvs k h) (hn : h.cs.length = n) (hc : h.cs[k]? = some cl) (o : OwnI w base v cl.r)
    (hap : ∀ u ∈ (Value.slice (some ⟨g, 0, none⟩) n c) :: vr :: ovs, v.ownBlock = none ∨ v.ownBlock ≠ u.ownBlock) : MidH (w.setCell ⟨g, k * 3 + 2, none⟩ v) base (.slice (some ⟨g, 0, none⟩) n c) vr (ovs ++ [v]) rvs (k + 1) h := by
  have hk : k < h.cs.length := (List.getElem?_eq_some_iff.1 hc).1
  have hsp := S.sep
  unfold Sep at hsp
  rw [List.pairwise_cons, List.pairwise_cons] at hsp
  have ap : ∀ u ∈ vr :: ovs, u.ownBlock = none ∨ u.ownBlock ≠ some g := fun u hu => sep_back (hsp.1 u hu)
  have hvg : v.ownBlock = none ∨ v.ownBlock ≠ some g := hap (.slice (some ⟨g, 0, none⟩) n c) (by simp)
  refine ⟨by simp [S.len], by omega, S.all, ?_, fun j c' u hc' hu => ?_, S.roots.far (put_any w g _ _) (ap vr (by simp)), ?_⟩
  · have hrow : w.ownsRow base 43 3 (.slice (some ⟨g, 0, none⟩) h.cs.length c) h.cs.length (flatC h.cs (ovs ++ rvs.drop k)) := by
      have := S.row
      rwa [hn] at this ⊢
    have q := (World.ownsRow.stored hrow (k * 3 + 2) v).1
    rw [flatC_set_r _ _ _ _ _ cl.r (by simp [S.len, S.all]; omega) hc] at q
    have e1 : h.cs.set k ⟨cl.u, cl.d, cl.r⟩ = h.cs := by
      obtain ⟨h1, h2⟩ := List.getElem?_eq_some_iff.1 hc
      show h.cs.set k cl = h.cs
      rw [← h2]
      exact List.set_getElem_self h1
    have e2 : (ovs ++ rvs.drop k).set k v = (ovs ++ [v]) ++ rvs.drop (k + 1) := by
      rw [List.set_append_right _ _ (by rw [S.len]; exact Nat.le_refl _), S.len, Nat.sub_self, List.append_assoc]
      congr 1
      rw [List.drop_eq_getElem_cons (by rw [S.all]; exact hk)]
      rfl
    rw [e1, e2] at q
    rw [hn] at q ⊢
    exact q
  · rcases Nat.lt_or_ge j k with hj | hj
    · rw [List.getElem?_append_left (by rw [S.len]; exact hj)] at hu
      exact (S.refs j c' u hc' hu).far (put_any w g _ _) (ap u (by simp [List.mem_of_getElem? hu]))
    · have hjk : j = k := by
        have := (List.getElem?_eq_some_iff.1 hu).1
        simp [S.len] at this
        omega
      subst hjk
      rw [hc] at hc'
      rw [List.getElem?_append_right (by rw [S.len]; exact Nat.le_refl _), S.len, Nat.sub_self] at hu
      have hu : v = u := by simpa using hu
      rw [← hu, ← Option.some.inj hc']
      exact o.far (put_any w g _ _) hvg
  · unfold Sep
    rw [List.pairwise_cons, List.pairwise_cons]
    refine ⟨fun u hu => ?_, fun u hu => ?_, ?_⟩
    · rw [List.mem_cons, List.mem_append, List.mem_singleton] at hu
      rcases hu with rfl | hu | rfl
      · exact hsp.1 u (by simp)
      · exact hsp.1 u (by simp [hu])
      · exact sep_back (hap _ (by simp))
    · rw [List.mem_append, List.mem_singleton] at hu
      rcases hu with hu | rfl
      · exact hsp.2.1 u hu
      · exact sep_back (hap _ (by simp))
    · rw [List.pairwise_append]
      refine ⟨hsp.2.2, List.pairwise_singleton _ _, fun a ha b hb => ?_⟩
      rw [List.mem_singleton] at hb
      subst hb
      exact sep_back (hap a (by simp [ha]))
theorem MidH.done (S : MidH w base vc vr ovs rvs k h) (hk : k = h.cs.length) : OwnHx w base vc vr ovs h := by
  refine ⟨by rw [S.len, hk], ?_, S.refs, S.roots, S.sep⟩
  have := S.row
  rwa [hk, List.drop_of_length_le (by rw [S.all]; exact Nat.le_refl _), List.append_nil] at this
theorem MidH.form (S : MidH w base vc vr ovs rvs k h) : ∃ A c R d, vc = .slice A h.cs.length c ∧ vr = .slice R h.rt.length d ∧ h.cs.length ≤ c ∧ (0 < h.cs.length → ∃ g, A = some ⟨g, 0, none⟩ ∧ base ≤ g ∧ g < w.heap.size) := by
  obtain ⟨R, d, rfl, hR⟩ := S.roots.form
  rcases S.row.2 with ⟨e, h0⟩ | ⟨g, cap, cur, e, hb, hh, hc, _⟩
  · exact ⟨none, 0, R, d, by rw [e, h0], rfl, by omega, fun h => by omega⟩
  · exact ⟨some ⟨g, 0, none⟩, cap, R, d, e, rfl, hc, fun _ => ⟨g, rfl, hb, (Array.getElem?_eq_some_iff.1 hh).1⟩⟩
/-- the references that the next cell still shares -/
theorem MidH.ref {g n c : Nat} {cl : Cl} {B : Nat} (S : MidH w base (.slice (some ⟨g, 0, none⟩) n c) vr ovs rvs k h) (hn : h.cs.length = n) (hc : h.cs[k]? = some cl) (hr : RefsAt w B h.cs rvs) :
    ∃ A m cc, w.cell? ⟨g, k * 3 + 2, none⟩ = some (.slice A m cc) ∧ m ≤ cc ∧ IS w B A m cl.r ∧ ∀ i, w.frozen? ⟨g, i, none⟩ = false := by
  have hk : k < h.cs.length := (List.getElem?_eq_some_iff.1 hc).1
  have hv := List.getElem?_eq_getElem (show k < rvs.length by rw [S.all]; exact hk)
  obtain ⟨A, m, cc, e, hm, hi⟩ := hr.2 k cl _ hc hv
  have hv2 : (ovs ++ rvs.drop k)[k]? = some (.slice A m cc) := by
    rw [List.getElem?_append_right (by rw [S.len]; exact Nat.le_refl _), S.len, Nat.sub_self, List.getElem?_drop, Nat.add_zero, hv, e]
  obtain ⟨_, _, f3⟩ := flatC_at _ _ _ _ _ hc hv2
  have hrow : w.ownsRow base 43 3 (.slice (some ⟨g, 0, none⟩) h.cs.length c) h.cs.length (flatC h.cs (ovs ++ rvs.drop k)) := by
    have := S.row
    rwa [hn] at this ⊢
  exact ⟨A, m, cc, (World.ownsRow.cellAt hrow _ (by omega)).trans f3, hm, hi, fun i => World.ownsRow.frozenAt hrow i⟩
end
end Go.Proofs.YtfgdenmlfloloaaDoor

namespace Go.Proofs.YtfgdenmlfloloaaDoor
open Go.RowKit
set_option maxRecDepth 100000
theorem row_form {w : World} {base n s : Nat} {e : TypeId} {v : Value} {xs : List Value} (h : w.ownsRow base e s v n xs) : ∃ A c, v = .slice A n c := by
  rcases h.2 with ⟨rfl, h0⟩ | ⟨g, cap, cur, rfl, _⟩
  · exact ⟨none, 0, by rw [h0]⟩
  · exact ⟨_, _, rfl⟩
set_option maxHeartbeats 4000000 in
theorem cloneHeap_any (A R : Option Addr) (n c m d : Nat) (h : Hp) (w : World) (hs : HS w w.heap.size A n R m h) (hn : n ≤ 1099511627776) (hm : m ≤ 1099511627776) (h3 : ∀ cl ∈ h.cs, cl.r.length ≤ 1000000) :
    Calls Tryd.prog 72 #[heapV A n c R m d] w (GaveH w h) := by
  have hlc := hs.cells.1
  obtain ⟨rvs, hrv, hrA⟩ := hs.cells.refs
  have B2 : Below w.heap.size w ((w.alloc (.cells #[.slice A n c, .slice R m d] 26)).alloc (.cells #[.slice none 0 0, .slice none 0 0] 26)) := ((Below.refl _ _).alloc (Nat.le_refl _) _).alloc (by simp) _
  have Q1 := (Rw.new w 26 #[.slice A n c, .slice R m d]).alloc (.cells #[.slice none 0 0, .slice none 0 0] 26)
  have Q2 := Rw.new (w.alloc (.cells #[.slice A n c, .slice R m d] 26)) 26 #[.slice none 0 0, .slice none 0 0]
  simp only [World.size_alloc] at Q2
  have H3 := Lib.hid h3
  have HLC := Lib.hid hlc
  have HRV := Lib.hid hrv
  have HRA := Lib.hid hrA
  clear h3 hlc hrv hrA
  go_enter Tryd.func72, Tryd.ntmps72
  go_upto_region 1 with fail
  generalize ((w.alloc (.cells #[.slice A n c, .slice R m d] 26)).alloc (.cells #[.slice none 0 0, .slice none 0 0] 26)) = w2 at B2 Q1 Q2 ⊢
  have hz := Q2.lt
  refine wp_region_inv (by kernel_rfl) (by kernel_rfl) (fun L ac ww => ∃ t3 t5 t6 t7 t8 t9 t10 t11 : Value, ac = { tmps := #[heapV A n c R m d, Value.pointer (some { block := w.heap.size, off := 0 }), Value.pointer (some { block := w.heap.size + 1, off := 0 }), t3, undef, t5, t6, t7, t8, t9, t10, t11, undef, undef, undef, undef, undef, undef, undef, undef, undef, undef, undef, undef, undef, undef, undef, undef, undef, undef, undef, undef], defers := [] } ∧ (Below w2.heap.size w2 ww) ∧ (L 0 = true → t5 = .pointer (some ⟨w.heap.size, 0, none⟩)) ∧ (L 1 = true → t6 = .slice A n c) ∧ (L 2 = true → ww.ownsRow w2.heap.size 43 3 t7 n (flatC h.cs rvs)) ∧ (L 3 = true → t8 = .pointer (some ⟨w.heap.size, 1, none⟩)) ∧ (L 4 = true → t9 = .slice R m d) ∧ (L 5 = true → OwnI ww w2.heap.size t10 h.rt ∧ (t7.ownBlock = none ∨ t7.ownBlock ≠ t10.ownBlock) ∧ L 2 = true) ∧ (L 6 = true → t11 = .agg #[t7, t10] ∧ L 5 = true ∧ L 2 = true) ∧ (L 7 = true → ∃ g3, t3 = .pointer (some ⟨g3, 0, none⟩) ∧ w2.heap.size ≤ g3 ∧ ∃ cs, Rw ww g3 26 cs ∧ cs = (if L 8 = true then #[t7, t10] else #[.slice none 0 0, .slice none 0 0])) ∧ (L 8 = true → L 7 = true ∧ L 5 = true ∧ L 2 = true)) ?h0 ?hstep ?hdone
  case h0 => exact ⟨_, _, _, _, _, _, _, _, rfl, (Below.refl _ _).drew, (fun h => absurd h Bool.false_ne_true), (fun h => absurd h Bool.false_ne_true), (fun h => absurd h Bool.false_ne_true), (fun h => absurd h Bool.false_ne_true), (fun h => absurd h Bool.false_ne_true), (fun h => absurd h Bool.false_ne_true), (fun h => absurd h Bool.false_ne_true), (fun h => absurd h Bool.false_ne_true), (fun h => absurd h Bool.false_ne_true)⟩
  case hstep =>
    rintro L ac ww i o ho hL hd ⟨t3, t5, t6, t7, t8, t9, t10, t11, rfl, I0, f0, f1, f2, f3, f4, f5, f6, f7, f8⟩
    have hi : i < 9 := (Array.getElem?_eq_some_iff.1 ho).1
    obtain rfl | rfl | rfl | rfl | rfl | rfl | rfl | rfl | rfl : i = 0 ∨ i = 1 ∨ i = 2 ∨ i = 3 ∨ i = 4 ∨ i = 5 ∨ i = 6 ∨ i = 7 ∨ i = 8 := by omega
    · obtain rfl := Option.some.inj ho
      refine wpOp_step rfl (fun K' hK => ?_)
      go_simp
      refine hK _ _ ?_
      exact ⟨_, _, _, _, _, _, _, _, rfl, (I0), (fun _ => rfl), (kp f1), (kp f2), (kp f3), (kp f4), (fun h => ⟨(f5 (upd_ne h (by decide))).1, (f5 (upd_ne h (by decide))).2.1, upd_mono (f5 (upd_ne h (by decide))).2.2⟩), (fun h => ⟨(f6 (upd_ne h (by decide))).1, upd_mono (f6 (upd_ne h (by decide))).2.1, upd_mono (f6 (upd_ne h (by decide))).2.2⟩), (fun h => by
        obtain ⟨g3, e3, h3, cs, h5, h6⟩ := f7 (upd_ne h (by decide))
        exact ⟨g3, e3, h3, cs, h5, by rw [h6, upd_other (by decide)]⟩), (fun h => ⟨upd_mono (f8 (upd_ne h (by decide))).1, upd_mono (f8 (upd_ne h (by decide))).2.1, upd_mono (f8 (upd_ne h (by decide))).2.2⟩)⟩
    · obtain rfl := Option.some.inj ho
      have g0 := f0 (hd ⟨0, .data⟩ (by simp) rfl)
      subst g0
      have z0 : ww.cell? ⟨w.heap.size, 0, none⟩ = some (.slice A n c) := (I0.cell (p := ⟨w.heap.size, 0, none⟩) (by show w.heap.size < w2.heap.size; omega)).trans (Q1.cell 0)
      refine wpOp_step rfl (fun K' hK => ?_)
      go_simp
      refine hK _ _ ?_
      exact ⟨_, _, _, _, _, _, _, _, rfl, (I0), (kp f0), (fun _ => rfl), (kp f2), (kp f3), (kp f4), (fun h => ⟨(f5 (upd_ne h (by decide))).1, (f5 (upd_ne h (by decide))).2.1, upd_mono (f5 (upd_ne h (by decide))).2.2⟩), (fun h => ⟨(f6 (upd_ne h (by decide))).1, upd_mono (f6 (upd_ne h (by decide))).2.1, upd_mono (f6 (upd_ne h (by decide))).2.2⟩), (fun h => by
        obtain ⟨g3, e3, h3, cs, h5, h6⟩ := f7 (upd_ne h (by decide))
        exact ⟨g3, e3, h3, cs, h5, by rw [h6, upd_other (by decide)]⟩), (fun h => ⟨upd_mono (f8 (upd_ne h (by decide))).1, upd_mono (f8 (upd_ne h (by decide))).2.1, upd_mono (f8 (upd_ne h (by decide))).2.2⟩)⟩
    · obtain rfl := Option.some.inj ho
      have g1 := f1 (hd ⟨1, .data⟩ (by simp) rfl)
      subst g1
      refine wpOp_step rfl (fun K' hK => ?_)
      go_simp
      have bw := B2.trans (I0.mono B2.size)
      have hrv := (hs.up bw)
      obtain ⟨rvs2, hr2, hA2⟩ := (hs.below bw).cells.refs
      refine (cloneC_any A n c h.cs rvs ww HLC.out (by have := HRV.out.below bw; exact ⟨this.1, fun k c v hc hv => by obtain ⟨A1, m1, c1, e, h1, h2⟩ := this.2 k c v hc hv; exact ⟨A1, m1, c1, e, h1, h2.more bw.size⟩⟩) (fun h0 => by obtain ⟨g, o, e, hg, hc⟩ := HRA.out h0; exact ⟨g, o, e, Nat.lt_of_lt_of_le hg bw.size, fun j u hu => (bw.cell (p := ⟨g, o + j, none⟩) hg).trans (hc j u hu)⟩) hn).mono ?_
      rintro e w' ⟨v1, rfl, o1, b5⟩
      refine hK _ _ ?_
      exact ⟨_, _, _, _, _, _, _, _, rfl, (I0.trans (b5.mono I0.size)), (kp f0), (kp f1), (fun _ => row_base o1 I0.size), (kp f3), (kp f4), (fun h => by
        have h1 := upd_ne h (by decide)
        exact absurd (f5 h1).2.2 (by rw [hL]; decide)), (fun h => absurd (f6 (upd_ne h (by decide))).2.2 (by rw [hL]; decide)), (fun h => by
        have hL7 := upd_ne h (by decide)
        obtain ⟨g3, e3, h3, cs, h5, h6⟩ := f7 hL7
        have hL8 : L 8 = false := by
          cases e : L 8
          · rfl
          · have := (f8 e).2.2
            rw [hL] at this
            cases this
        rw [if_neg (by rw [hL8]; decide)] at h6
        exact ⟨g3, e3, h3, cs, h5.keep b5 h5.lt, by rw [h6, upd_other (by decide), if_neg (by rw [hL8]; decide)]⟩), (fun h => ⟨upd_mono (f8 (upd_ne h (by decide))).1, upd_mono (f8 (upd_ne h (by decide))).2.1, upd_mono (f8 (upd_ne h (by decide))).2.2⟩)⟩
    · obtain rfl := Option.some.inj ho
      refine wpOp_step rfl (fun K' hK => ?_)
      go_simp
      refine hK _ _ ?_
      exact ⟨_, _, _, _, _, _, _, _, rfl, (I0), (kp f0), (kp f1), (kp f2), (fun _ => rfl), (kp f4), (fun h => ⟨(f5 (upd_ne h (by decide))).1, (f5 (upd_ne h (by decide))).2.1, upd_mono (f5 (upd_ne h (by decide))).2.2⟩), (fun h => ⟨(f6 (upd_ne h (by decide))).1, upd_mono (f6 (upd_ne h (by decide))).2.1, upd_mono (f6 (upd_ne h (by decide))).2.2⟩), (fun h => by
        obtain ⟨g3, e3, h3, cs, h5, h6⟩ := f7 (upd_ne h (by decide))
        exact ⟨g3, e3, h3, cs, h5, by rw [h6, upd_other (by decide)]⟩), (fun h => ⟨upd_mono (f8 (upd_ne h (by decide))).1, upd_mono (f8 (upd_ne h (by decide))).2.1, upd_mono (f8 (upd_ne h (by decide))).2.2⟩)⟩
    · obtain rfl := Option.some.inj ho
      have g3 := f3 (hd ⟨3, .data⟩ (by simp) rfl)
      subst g3
      have z1 : ww.cell? ⟨w.heap.size, 1, none⟩ = some (.slice R m d) := (I0.cell (p := ⟨w.heap.size, 1, none⟩) (by show w.heap.size < w2.heap.size; omega)).trans (Q1.cell 1)
      refine wpOp_step rfl (fun K' hK => ?_)
      go_simp
      refine hK _ _ ?_
      exact ⟨_, _, _, _, _, _, _, _, rfl, (I0), (kp f0), (kp f1), (kp f2), (kp f3), (fun _ => rfl), (fun h => ⟨(f5 (upd_ne h (by decide))).1, (f5 (upd_ne h (by decide))).2.1, upd_mono (f5 (upd_ne h (by decide))).2.2⟩), (fun h => ⟨(f6 (upd_ne h (by decide))).1, upd_mono (f6 (upd_ne h (by decide))).2.1, upd_mono (f6 (upd_ne h (by decide))).2.2⟩), (fun h => by
        obtain ⟨g3, e3, h3, cs, h5, h6⟩ := f7 (upd_ne h (by decide))
        exact ⟨g3, e3, h3, cs, h5, by rw [h6, upd_other (by decide)]⟩), (fun h => ⟨upd_mono (f8 (upd_ne h (by decide))).1, upd_mono (f8 (upd_ne h (by decide))).2.1, upd_mono (f8 (upd_ne h (by decide))).2.2⟩)⟩
    · obtain rfl := Option.some.inj ho
      have g4 := f4 (hd ⟨4, .data⟩ (by simp) rfl)
      subst g4
      have g2 := f2 (hd ⟨2, .chain⟩ (by simp) rfl)
      refine wpOp_step rfl (fun K' hK => ?_)
      go_simp
      have bw := B2.trans (I0.mono B2.size)
      refine (cloneI_any R m d h.rt ww ((hs.up bw).roots) hm).mono ?_
      rintro e w' ⟨v1, rfl, o1, b5⟩
      refine hK _ _ ?_
      exact ⟨_, _, _, _, _, _, _, _, rfl, (I0.trans (b5.mono I0.size)), (kp f0), (kp f1), (fun h => row_below (f2 (upd_ne h (by decide))) b5 (Nat.le_refl _)), (kp f3), (kp f4), (fun _ => ⟨o1.base I0.size, by
        cases e7 : t7.ownBlock with
        | none => exact .inl rfl
        | some q =>
          right
          intro e
          have a1 := (World.ownsRow.lt g2 q e7).2
          have a2 := (World.ownsRow.lt o1 q e.symm).1
          omega, by rw [upd_other (by decide)]; exact hd ⟨2, .chain⟩ (by simp) rfl⟩), (fun h => absurd (f6 (upd_ne h (by decide))).2.1 (by rw [hL]; decide)), (fun h => by
        have hL7 := upd_ne h (by decide)
        obtain ⟨g3, e3, h3, cs, h5, h6⟩ := f7 hL7
        have hL8 : L 8 = false := by
          cases e : L 8
          · rfl
          · have := (f8 e).2.1
            rw [hL] at this
            cases this
        rw [if_neg (by rw [hL8]; decide)] at h6
        exact ⟨g3, e3, h3, cs, h5.keep b5 h5.lt, by rw [h6, upd_other (by decide), if_neg (by rw [hL8]; decide)]⟩), (fun h => ⟨upd_mono (f8 (upd_ne h (by decide))).1, upd_mono (f8 (upd_ne h (by decide))).2.1, upd_mono (f8 (upd_ne h (by decide))).2.2⟩)⟩
    · obtain rfl := Option.some.inj ho
      have g2 := f2 (hd ⟨2, .data⟩ (by simp) rfl)
      have g5 := f5 (hd ⟨5, .data⟩ (by simp) rfl)
      have l5 := hd ⟨5, .data⟩ (by simp) rfl
      have l2 := hd ⟨2, .data⟩ (by simp) rfl
      obtain ⟨A7, c7, rfl⟩ := row_form g2
      obtain ⟨A9, d9, rfl, -⟩ := g5.1.form
      refine wpOp_step rfl (fun K' hK => ?_)
      go_simp
      refine hK _ _ ?_
      exact ⟨_, _, _, _, _, _, _, _, rfl, (I0), (kp f0), (kp f1), (kp f2), (kp f3), (kp f4), (fun h => ⟨(f5 (upd_ne h (by decide))).1, (f5 (upd_ne h (by decide))).2.1, upd_mono (f5 (upd_ne h (by decide))).2.2⟩), (fun _ => ⟨rfl, upd_mono l5, upd_mono l2⟩), (fun h => by
        obtain ⟨g3, e3, h3, cs, h5, h6⟩ := f7 (upd_ne h (by decide))
        exact ⟨g3, e3, h3, cs, h5, by rw [h6, upd_other (by decide)]⟩), (fun h => ⟨upd_mono (f8 (upd_ne h (by decide))).1, upd_mono (f8 (upd_ne h (by decide))).2.1, upd_mono (f8 (upd_ne h (by decide))).2.2⟩)⟩
    · obtain rfl := Option.some.inj ho
      have hL8 : L 8 = false := by
        cases e : L 8
        · rfl
        · exact absurd (f8 e).1 (by rw [hL]; decide)
      refine wpOp_step rfl (fun K' hK => ?_)
      go_simp
      have b5 : Below ww.heap.size ww (ww.alloc (.cells #[.slice none 0 0, .slice none 0 0] 26)) := (Below.refl _ _).alloc (Nat.le_refl _) _
      refine hK _ _ ?_
      exact ⟨_, _, _, _, _, _, _, _, rfl, (I0.alloc I0.size _), (kp f0), (kp f1), (fun h => row_below (f2 (upd_ne h (by decide))) b5 (Nat.le_refl _)), (kp f3), (kp f4), (fun h => ⟨(f5 (upd_ne h (by decide))).1.below b5 (Nat.le_refl _), (f5 (upd_ne h (by decide))).2.1, upd_mono (f5 (upd_ne h (by decide))).2.2⟩), (fun h => ⟨(f6 (upd_ne h (by decide))).1, upd_mono (f6 (upd_ne h (by decide))).2.1, upd_mono (f6 (upd_ne h (by decide))).2.2⟩), (fun _ => ⟨_, rfl, I0.size, _, Rw.new _ _ _, by rw [upd_other (by decide), hL8, if_neg (by decide)]⟩), (fun h => ⟨upd_mono (f8 (upd_ne h (by decide))).1, upd_mono (f8 (upd_ne h (by decide))).2.1, upd_mono (f8 (upd_ne h (by decide))).2.2⟩)⟩
    · obtain rfl := Option.some.inj ho
      have g6 := f6 (hd ⟨6, .data⟩ (by simp) rfl)
      have g7 := f7 (hd ⟨7, .data⟩ (by simp) rfl)
      have l5 := hd ⟨5, .chain⟩ (by simp) rfl
      have l7 := hd ⟨7, .data⟩ (by simp) rfl
      have g5 := f5 l5
      have g2 := f2 g5.2.2
      have l2 := g5.2.2
      obtain ⟨g6, -, -⟩ := g6
      subst g6
      obtain ⟨g3, e3, h3, cs, h5, h6⟩ := g7
      rw [hL, if_neg (by decide)] at h6
      subst h6
      subst e3
      obtain ⟨A7, c7, rfl⟩ := row_form g2
      obtain ⟨A9, d9, rfl, -⟩ := g5.1.form
      have a7 : (Value.slice A7 n c7).ownBlock = none ∨ (Value.slice A7 n c7).ownBlock ≠ some g3 := .inr (row_type g2 h5 (by decide)).symm
      have a9 : (Value.slice A9 h.rt.length d9).ownBlock = none ∨ (Value.slice A9 h.rt.length d9).ownBlock ≠ some g3 := .inr (row_type g5.1 h5 (by decide)).symm
      have c0 := h5.cell 0
      have c1 := h5.cell 1
      simp only [List.getElem?_toArray, List.getElem?_cons_zero, List.getElem?_cons_succ] at c0 c1
      have z0 := h5.frozen 0
      have z1 := h5.frozen 1
      have hput := (h5.put 0 (.slice A7 n c7)).put 1 (.slice A9 h.rt.length d9)
      refine wpOp_step rfl (fun K' hK => ?_)
      go_simp
      refine hK _ _ ?_
      exact ⟨_, _, _, _, _, _, _, _, rfl, ((I0.setCell (p := ⟨g3, 0, none⟩) (by show w2.heap.size ≤ g3; omega) _).setCell (p := ⟨g3, 1, none⟩) (by show w2.heap.size ≤ g3; omega) _), (kp f0), (kp f1), (fun _ => World.ownsRow.kept (World.ownsRow.kept g2 (put_any ww g3 0 _) a7) (put_any _ g3 1 _) a7), (kp f3), (kp f4), (fun _ => ⟨(g5.1.far (put_any ww g3 0 _) a9).far (put_any _ g3 1 _) a9, g5.2.1, upd_mono l2⟩), (fun h => ⟨(f6 (upd_ne h (by decide))).1, upd_mono (f6 (upd_ne h (by decide))).2.1, upd_mono (f6 (upd_ne h (by decide))).2.2⟩), (fun _ => ⟨g3, rfl, h3, _, hput, by rw [upd_self, if_pos rfl]; rfl⟩), (fun _ => ⟨upd_mono l7, upd_mono l5, upd_mono l2⟩)⟩
  case hdone =>
    rintro L ac ww hall ⟨t3, t5, t6, t7, t8, t9, t10, t11, rfl, I0, f0, f1, f2, f3, f4, f5, f6, f7, f8⟩
    have e0 := f0 (hall 0 (by decide))
    have e1 := f1 (hall 1 (by decide))
    have e2 := f2 (hall 2 (by decide))
    have e3 := f3 (hall 3 (by decide))
    have e4 := f4 (hall 4 (by decide))
    have e5 := f5 (hall 5 (by decide))
    have e6 := f6 (hall 6 (by decide))
    have e7 := f7 (hall 7 (by decide))
    have e8 := f8 (hall 8 (by decide))
    clear f0 f1 f2 f3 f4 f5 f6 f7 f8
    obtain ⟨g3, rfl, hg3, cs, BX, e9⟩ := e7
    rw [hall 8 (by decide), if_pos rfl] at e9
    subst e9
    obtain ⟨e6, -, -⟩ := e6
    subst e0 e1 e3 e4 e6
    obtain ⟨A7, c7, rfl⟩ := row_form e2
    have OR := e5.1
    obtain ⟨A9, d9, rfl, -⟩ := OR.form
    have SP := e5.2.1
    clear e5 e8 hall
    have S0 : MidH ww w2.heap.size (.slice A7 n c7) (.slice A9 h.rt.length d9) [] rvs 0 h :=
      ⟨rfl, Nat.zero_le _, HRV.out.1, by rw [HLC.out]; exact e2, fun j cl v hc hv => by simp at hv, OR, by simp [Sep]; exact SP⟩
    have AP : Apart (some g3) (Value.slice A7 n c7 :: Value.slice A9 h.rt.length d9 :: []) := by
      intro u hu
      simp only [List.mem_cons, List.not_mem_nil, or_false] at hu
      rcases hu with rfl | rfl
      · exact .inr (row_type e2 BX (by decide)).symm
      · exact .inr (row_type OR BX (by decide)).symm
    clear e2 OR SP
    have c0 := BX.cell 0
    have c1 := BX.cell 1
    simp only [List.getElem?_toArray, List.getElem?_cons_zero, List.getElem?_cons_succ] at c0 c1
    go_wp2_with fail
    go_loopw [15] (fun i wr => ∃ (k : Nat) (ovs : List Value), k ≤ n ∧ i = .int .i64 k ∧ MidH wr w2.heap.size (.slice A7 n c7) (.slice A9 h.rt.length d9) ovs rvs k h ∧ Apart (some g3) (Value.slice A7 n c7 :: Value.slice A9 h.rt.length d9 :: ovs) ∧ Rw wr g3 26 #[.slice A7 n c7, .slice A9 h.rt.length d9] ∧ Below w2.heap.size w2 wr) (fun i _ => n - (intOf i).toNat)
    case atStart => exact ⟨0, [], Nat.zero_le _, rfl, S0, AP, BX, I0⟩
    case round =>
      clear S0 AP BX I0 c0 c1
      obtain ⟨k, ovs, hk, rfl, S, AP, BX, IW⟩ := hrel
      have bw := B2.trans (IW.mono B2.size)
      by_cases hlt : k < n
      · have hck := List.getElem?_eq_getElem (show k < h.cs.length by rw [HLC.out]; exact hlt)
        generalize h.cs[k]'(by rw [HLC.out]; exact hlt) = cl at hck
        obtain ⟨A8, c8, R8, d8, q1, -, -, fA⟩ := S.form
        obtain ⟨g, hg0, hg1, hg2⟩ := fA (by rw [HLC.out]; omega)
        have hA7 : A7 = some ⟨g, 0, none⟩ := by
          have q1 := q1
          injection q1 with q1 _ _
          exact q1.trans hg0
        subst hA7
        clear q1 fA hg0
        obtain ⟨A1, m1, c1, x2, hm1, is1, fz⟩ := S.ref HLC.out hck (HRV.out.below bw)
        have is2 := is1.more bw.size
        have hm3 : m1 ≤ 1099511627776 := by
          have := is1.1
          have := H3.out cl (List.mem_of_getElem? hck)
          omega
        have x0 := BX.cell 0
        simp only [List.getElem?_toArray, List.getElem?_cons_zero] at x0
        have hlt' : (k : Int) < n := by omega
        have hbx := BX.lt
        have fzg := fz (k * 3 + 2)
        clear is1 fz hm1
        have HCK := Lib.hid hck
        have SS := Lib.hid S
        have AA := Lib.hid AP
        have BB := Lib.hid BX
        clear hck S AP BX
        go_upto_region 5 with fail
        refine wp_region_inv (by kernel_rfl) (by kernel_rfl) (fun L ac ww => ∃ t18 t19 t20 t21 t22 t23 t24 t25 t26 t27 t28 t29 : Value, ac = { tmps := #[heapV A n c R m d, Value.pointer (some { block := w.heap.size, off := 0 }), Value.pointer (some { block := w.heap.size + 1, off := 0 }), Value.pointer (some { block := g3, off := 0 }), Value.int IntKind.i64 ↑k, Value.pointer (some { block := w.heap.size, off := 0 }), Value.slice A n c, Value.slice (some { block := g, off := 0 }) n c7, Value.pointer (some { block := w.heap.size, off := 1 }), Value.slice R m d, Value.slice A9 h.rt.length d9, Value.agg #[Value.slice (some { block := g, off := 0 }) n c7, Value.slice A9 h.rt.length d9], Value.pointer (some { block := g3, off := 0 }), Value.slice (some { block := g, off := 0 }) n c7, Value.int IntKind.i64 ↑n, Value.int IntKind.i64 ↑k, Value.bool true, Value.int IntKind.i64 ↑k, t18, t19, t20, t21, t22, t23, t24, t25, t26, t27, t28, t29, u30, undef], defers := [] } ∧ (L 12 = false → Below wr.heap.size wr ww) ∧ (L 0 = true → t18 = .pointer (some ⟨g3, 0, none⟩)) ∧ (L 1 = true → t19 = .slice (some ⟨g, 0, none⟩) n c7) ∧ (L 2 = true → t20 = .int .i64 k) ∧ (L 3 = true → t21 = .pointer (some ⟨g3, 0, none⟩)) ∧ (L 4 = true → t22 = .slice (some ⟨g, 0, none⟩) n c7) ∧ (L 5 = true → t23 = .int .i64 k) ∧ (L 6 = true → t24 = .pointer (some ⟨g, k * 3, none⟩)) ∧ (L 7 = true → t25 = .pointer (some ⟨g, k * 3 + 2, none⟩)) ∧ (L 8 = true → t26 = .slice A1 m1 c1) ∧ (L 9 = true → L 12 = false → OwnI ww wr.heap.size t27 cl.r) ∧ (L 10 = true → t28 = .pointer (some ⟨g, k * 3, none⟩)) ∧ (L 11 = true → t29 = .pointer (some ⟨g, k * 3 + 2, none⟩) ∧ L 10 = true) ∧ (L 12 = true → (∀ q, q < 12 → L q = true) ∧ ∃ w5, Below wr.heap.size wr w5 ∧ OwnI w5 wr.heap.size t27 cl.r ∧ ww = w5.setCell ⟨g, k * 3 + 2, none⟩ t27)) ?h0 ?hstep ?hdone
        case h0 => exact ⟨_, _, _, _, _, _, _, _, _, _, _, _, rfl, fun _ => (Below.refl _ _).drew, (fun h => absurd h Bool.false_ne_true), (fun h => absurd h Bool.false_ne_true), (fun h => absurd h Bool.false_ne_true), (fun h => absurd h Bool.false_ne_true), (fun h => absurd h Bool.false_ne_true), (fun h => absurd h Bool.false_ne_true), (fun h => absurd h Bool.false_ne_true), (fun h => absurd h Bool.false_ne_true), (fun h => absurd h Bool.false_ne_true), (fun h => absurd h Bool.false_ne_true), (fun h => absurd h Bool.false_ne_true), (fun h => absurd h Bool.false_ne_true), (fun h => absurd h Bool.false_ne_true)⟩
        case hstep =>
          rintro L ac ww i o ho hL hd ⟨t18, t19, t20, t21, t22, t23, t24, t25, t26, t27, t28, t29, rfl, I0, f0, f1, f2, f3, f4, f5, f6, f7, f8, f9, f10, f11, f12⟩
          have hi : i < 13 := (Array.getElem?_eq_some_iff.1 ho).1
          obtain rfl | rfl | rfl | rfl | rfl | rfl | rfl | rfl | rfl | rfl | rfl | rfl | rfl : i = 0 ∨ i = 1 ∨ i = 2 ∨ i = 3 ∨ i = 4 ∨ i = 5 ∨ i = 6 ∨ i = 7 ∨ i = 8 ∨ i = 9 ∨ i = 10 ∨ i = 11 ∨ i = 12 := by omega
          · obtain rfl := Option.some.inj ho
            have hL12 : L 12 = false := by
              cases e : L 12
              · rfl
              · exact absurd ((f12 e).1 0 (by omega)) (by rw [hL]; decide)
            have J := I0 hL12
            refine wpOp_step rfl (fun K' hK => ?_)
            go_simp
            refine hK _ _ ?_
            exact ⟨_, _, _, _, _, _, _, _, _, _, _, _, rfl, (fun _ => J), (fun _ => rfl), (kp f1), (kp f2), (kp f3), (kp f4), (kp f5), (kp f6), (kp f7), (kp f8), (fun h _ => f9 (upd_ne h (by decide)) hL12), (kp f10), (fun h => ⟨(f11 (upd_ne h (by decide))).1, upd_mono (f11 (upd_ne h (by decide))).2⟩), (fun h => absurd ((f12 (upd_ne h (by decide))).1 0 (by omega)) (by rw [hL]; decide))⟩
          · obtain rfl := Option.some.inj ho
            have g0 := f0 (hd ⟨0, .data⟩ (by simp) rfl)
            subst g0
            have hL12 : L 12 = false := by
              cases e : L 12
              · rfl
              · exact absurd ((f12 e).1 1 (by omega)) (by rw [hL]; decide)
            have J := I0 hL12
            have z0 : ww.cell? ⟨g3, 0, none⟩ = some (.slice (some ⟨g, 0, none⟩) n c7) := (J.cell (p := ⟨g3, 0, none⟩) hbx).trans x0
            refine wpOp_step rfl (fun K' hK => ?_)
            go_simp
            refine hK _ _ ?_
            exact ⟨_, _, _, _, _, _, _, _, _, _, _, _, rfl, (fun _ => J), (kp f0), (fun _ => rfl), (kp f2), (kp f3), (kp f4), (kp f5), (kp f6), (kp f7), (kp f8), (fun h _ => f9 (upd_ne h (by decide)) hL12), (kp f10), (fun h => ⟨(f11 (upd_ne h (by decide))).1, upd_mono (f11 (upd_ne h (by decide))).2⟩), (fun h => absurd ((f12 (upd_ne h (by decide))).1 1 (by omega)) (by rw [hL]; decide))⟩
          · obtain rfl := Option.some.inj ho
            have hL12 : L 12 = false := by
              cases e : L 12
              · rfl
              · exact absurd ((f12 e).1 2 (by omega)) (by rw [hL]; decide)
            have J := I0 hL12
            refine wpOp_step rfl (fun K' hK => ?_)
            go_simp
            refine hK _ _ ?_
            exact ⟨_, _, _, _, _, _, _, _, _, _, _, _, rfl, (fun _ => J), (kp f0), (kp f1), (fun _ => rfl), (kp f3), (kp f4), (kp f5), (kp f6), (kp f7), (kp f8), (fun h _ => f9 (upd_ne h (by decide)) hL12), (kp f10), (fun h => ⟨(f11 (upd_ne h (by decide))).1, upd_mono (f11 (upd_ne h (by decide))).2⟩), (fun h => absurd ((f12 (upd_ne h (by decide))).1 2 (by omega)) (by rw [hL]; decide))⟩
          · obtain rfl := Option.some.inj ho
            have hL12 : L 12 = false := by
              cases e : L 12
              · rfl
              · exact absurd ((f12 e).1 3 (by omega)) (by rw [hL]; decide)
            have J := I0 hL12
            refine wpOp_step rfl (fun K' hK => ?_)
            go_simp
            refine hK _ _ ?_
            exact ⟨_, _, _, _, _, _, _, _, _, _, _, _, rfl, (fun _ => J), (kp f0), (kp f1), (kp f2), (fun _ => rfl), (kp f4), (kp f5), (kp f6), (kp f7), (kp f8), (fun h _ => f9 (upd_ne h (by decide)) hL12), (kp f10), (fun h => ⟨(f11 (upd_ne h (by decide))).1, upd_mono (f11 (upd_ne h (by decide))).2⟩), (fun h => absurd ((f12 (upd_ne h (by decide))).1 3 (by omega)) (by rw [hL]; decide))⟩
          · obtain rfl := Option.some.inj ho
            have g3 := f3 (hd ⟨3, .data⟩ (by simp) rfl)
            subst g3
            have hL12 : L 12 = false := by
              cases e : L 12
              · rfl
              · exact absurd ((f12 e).1 4 (by omega)) (by rw [hL]; decide)
            have J := I0 hL12
            have z0 : ww.cell? ⟨g3, 0, none⟩ = some (.slice (some ⟨g, 0, none⟩) n c7) := (J.cell (p := ⟨g3, 0, none⟩) hbx).trans x0
            refine wpOp_step rfl (fun K' hK => ?_)
            go_simp
            refine hK _ _ ?_
            exact ⟨_, _, _, _, _, _, _, _, _, _, _, _, rfl, (fun _ => J), (kp f0), (kp f1), (kp f2), (kp f3), (fun _ => rfl), (kp f5), (kp f6), (kp f7), (kp f8), (fun h _ => f9 (upd_ne h (by decide)) hL12), (kp f10), (fun h => ⟨(f11 (upd_ne h (by decide))).1, upd_mono (f11 (upd_ne h (by decide))).2⟩), (fun h => absurd ((f12 (upd_ne h (by decide))).1 4 (by omega)) (by rw [hL]; decide))⟩
          · obtain rfl := Option.some.inj ho
            have hL12 : L 12 = false := by
              cases e : L 12
              · rfl
              · exact absurd ((f12 e).1 5 (by omega)) (by rw [hL]; decide)
            have J := I0 hL12
            refine wpOp_step rfl (fun K' hK => ?_)
            go_simp
            refine hK _ _ ?_
            exact ⟨_, _, _, _, _, _, _, _, _, _, _, _, rfl, (fun _ => J), (kp f0), (kp f1), (kp f2), (kp f3), (kp f4), (fun _ => rfl), (kp f6), (kp f7), (kp f8), (fun h _ => f9 (upd_ne h (by decide)) hL12), (kp f10), (fun h => ⟨(f11 (upd_ne h (by decide))).1, upd_mono (f11 (upd_ne h (by decide))).2⟩), (fun h => absurd ((f12 (upd_ne h (by decide))).1 5 (by omega)) (by rw [hL]; decide))⟩
          · obtain rfl := Option.some.inj ho
            have g4 := f4 (hd ⟨4, .data⟩ (by simp) rfl)
            have g5 := f5 (hd ⟨5, .data⟩ (by simp) rfl)
            subst g4
            subst g5
            have hL12 : L 12 = false := by
              cases e : L 12
              · rfl
              · exact absurd ((f12 e).1 6 (by omega)) (by rw [hL]; decide)
            have J := I0 hL12
            refine wpOp_step rfl (fun K' hK => ?_)
            go_simp
            refine hK _ _ ?_
            exact ⟨_, _, _, _, _, _, _, _, _, _, _, _, rfl, (fun _ => J), (kp f0), (kp f1), (kp f2), (kp f3), (kp f4), (kp f5), (fun _ => rfl), (kp f7), (kp f8), (fun h _ => f9 (upd_ne h (by decide)) hL12), (kp f10), (fun h => ⟨(f11 (upd_ne h (by decide))).1, upd_mono (f11 (upd_ne h (by decide))).2⟩), (fun h => absurd ((f12 (upd_ne h (by decide))).1 6 (by omega)) (by rw [hL]; decide))⟩
          · obtain rfl := Option.some.inj ho
            have g6 := f6 (hd ⟨6, .data⟩ (by simp) rfl)
            subst g6
            have hL12 : L 12 = false := by
              cases e : L 12
              · rfl
              · exact absurd ((f12 e).1 7 (by omega)) (by rw [hL]; decide)
            have J := I0 hL12
            refine wpOp_step rfl (fun K' hK => ?_)
            go_simp
            refine hK _ _ ?_
            exact ⟨_, _, _, _, _, _, _, _, _, _, _, _, rfl, (fun _ => J), (kp f0), (kp f1), (kp f2), (kp f3), (kp f4), (kp f5), (kp f6), (fun _ => rfl), (kp f8), (fun h _ => f9 (upd_ne h (by decide)) hL12), (kp f10), (fun h => ⟨(f11 (upd_ne h (by decide))).1, upd_mono (f11 (upd_ne h (by decide))).2⟩), (fun h => absurd ((f12 (upd_ne h (by decide))).1 7 (by omega)) (by rw [hL]; decide))⟩
          · obtain rfl := Option.some.inj ho
            have g7 := f7 (hd ⟨7, .data⟩ (by simp) rfl)
            subst g7
            have hL12 : L 12 = false := by
              cases e : L 12
              · rfl
              · exact absurd ((f12 e).1 8 (by omega)) (by rw [hL]; decide)
            have J := I0 hL12
            have z0 : ww.cell? ⟨g, k * 3 + 2, none⟩ = some (.slice A1 m1 c1) := (J.cell (p := ⟨g, k * 3 + 2, none⟩) hg2).trans x2
            refine wpOp_step rfl (fun K' hK => ?_)
            go_simp
            refine hK _ _ ?_
            exact ⟨_, _, _, _, _, _, _, _, _, _, _, _, rfl, (fun _ => J), (kp f0), (kp f1), (kp f2), (kp f3), (kp f4), (kp f5), (kp f6), (kp f7), (fun _ => rfl), (fun h _ => f9 (upd_ne h (by decide)) hL12), (kp f10), (fun h => ⟨(f11 (upd_ne h (by decide))).1, upd_mono (f11 (upd_ne h (by decide))).2⟩), (fun h => absurd ((f12 (upd_ne h (by decide))).1 8 (by omega)) (by rw [hL]; decide))⟩
          · obtain rfl := Option.some.inj ho
            have g8 := f8 (hd ⟨8, .data⟩ (by simp) rfl)
            subst g8
            have hL12 : L 12 = false := by
              cases e : L 12
              · rfl
              · exact absurd ((f12 e).1 9 (by omega)) (by rw [hL]; decide)
            have J := I0 hL12
            refine wpOp_step rfl (fun K' hK => ?_)
            go_simp
            refine (cloneI_any A1 m1 c1 cl.r ww (is2.up J) hm3).mono ?_
            rintro e w' ⟨v1, rfl, o1, b5⟩
            refine hK _ _ ?_
            exact ⟨_, _, _, _, _, _, _, _, _, _, _, _, rfl, (fun _ => J.trans (b5.mono J.size)), (kp f0), (kp f1), (kp f2), (kp f3), (kp f4), (kp f5), (kp f6), (kp f7), (kp f8), (fun _ _ => o1.base J.size), (kp f10), (fun h => ⟨(f11 (upd_ne h (by decide))).1, upd_mono (f11 (upd_ne h (by decide))).2⟩), (fun h => absurd ((f12 (upd_ne h (by decide))).1 9 (by omega)) (by rw [hL]; decide))⟩
          · obtain rfl := Option.some.inj ho
            have g1 := f1 (hd ⟨1, .data⟩ (by simp) rfl)
            have g2 := f2 (hd ⟨2, .data⟩ (by simp) rfl)
            subst g1
            subst g2
            have hL12 : L 12 = false := by
              cases e : L 12
              · rfl
              · exact absurd ((f12 e).1 10 (by omega)) (by rw [hL]; decide)
            have J := I0 hL12
            refine wpOp_step rfl (fun K' hK => ?_)
            go_simp
            refine hK _ _ ?_
            exact ⟨_, _, _, _, _, _, _, _, _, _, _, _, rfl, (fun _ => J), (kp f0), (kp f1), (kp f2), (kp f3), (kp f4), (kp f5), (kp f6), (kp f7), (kp f8), (fun h _ => f9 (upd_ne h (by decide)) hL12), (fun _ => rfl), (fun h => ⟨(f11 (upd_ne h (by decide))).1, upd_mono (f11 (upd_ne h (by decide))).2⟩), (fun h => absurd ((f12 (upd_ne h (by decide))).1 10 (by omega)) (by rw [hL]; decide))⟩
          · obtain rfl := Option.some.inj ho
            have g10 := f10 (hd ⟨10, .data⟩ (by simp) rfl)
            subst g10
            have hL12 : L 12 = false := by
              cases e : L 12
              · rfl
              · exact absurd ((f12 e).1 11 (by omega)) (by rw [hL]; decide)
            have J := I0 hL12
            refine wpOp_step rfl (fun K' hK => ?_)
            go_simp
            refine hK _ _ ?_
            exact ⟨_, _, _, _, _, _, _, _, _, _, _, _, rfl, (fun _ => J), (kp f0), (kp f1), (kp f2), (kp f3), (kp f4), (kp f5), (kp f6), (kp f7), (kp f8), (fun h _ => f9 (upd_ne h (by decide)) hL12), (kp f10), (fun _ => ⟨rfl, upd_mono (hd ⟨10, .data⟩ (by simp) rfl)⟩), (fun h => absurd ((f12 (upd_ne h (by decide))).1 11 (by omega)) (by rw [hL]; decide))⟩
          · obtain rfl := Option.some.inj ho
            have g9 := f9 (hd ⟨9, .data⟩ (by simp) rfl)
            have g11 := f11 (hd ⟨11, .data⟩ (by simp) rfl)
            have l11 := Lib.hid (hd ⟨11, .data⟩ (by simp) rfl)
            have l10 := Lib.hid g11.2
            obtain ⟨g11, -⟩ := g11
            subst g11
            have J := I0 hL
            have o9 := g9 hL
            have hfz : ww.frozen? ⟨g, k * 3 + 2, none⟩ = false := (World.frozen?_of_block (J.block g hg2)).trans fzg
            have hcl : ww.cell? ⟨g, k * 3 + 2, none⟩ = some (.slice A1 m1 c1) := (J.cell (p := ⟨g, k * 3 + 2, none⟩) hg2).trans x2
            obtain ⟨A2, c2, rfl⟩ := row_form o9
            refine wpOp_step rfl (fun K' hK => ?_)
            go_simp
            refine hK _ _ ?_
            exact ⟨_, _, _, _, _, _, _, _, _, _, _, _, rfl, (fun h => absurd h (by rw [upd_self]; decide)), (kp f0), (kp f1), (kp f2), (kp f3), (kp f4), (kp f5), (kp f6), (kp f7), (kp f8), (fun _ h => absurd h (by rw [upd_self]; decide)), (kp f10), (fun h => ⟨(f11 (upd_ne h (by decide))).1, upd_mono (f11 (upd_ne h (by decide))).2⟩), (fun _ => ⟨fun q hq => by
              obtain rfl | rfl | rfl | rfl | rfl | rfl | rfl | rfl | rfl | rfl | rfl | rfl : q = 0 ∨ q = 1 ∨ q = 2 ∨ q = 3 ∨ q = 4 ∨ q = 5 ∨ q = 6 ∨ q = 7 ∨ q = 8 ∨ q = 9 ∨ q = 10 ∨ q = 11 := by omega
              all_goals first | exact upd_mono l10.out | exact upd_mono l11.out | exact upd_mono (hd ⟨_, .phase⟩ (by simp) rfl), ww, J, o9, rfl⟩)⟩
        case hdone =>
          rintro L ac ww hall ⟨t18, t19, t20, t21, t22, t23, t24, t25, t26, t27, t28, t29, rfl, I0, f0, f1, f2, f3, f4, f5, f6, f7, f8, f9, f10, f11, f12⟩
          have e0 := f0 (hall 0 (by decide))
          have e1 := f1 (hall 1 (by decide))
          have e2 := f2 (hall 2 (by decide))
          have e3 := f3 (hall 3 (by decide))
          have e4 := f4 (hall 4 (by decide))
          have e5 := f5 (hall 5 (by decide))
          have e6 := f6 (hall 6 (by decide))
          have e7 := f7 (hall 7 (by decide))
          have e8 := f8 (hall 8 (by decide))
          have e9 := f9 (hall 9 (by decide))
          have e10 := f10 (hall 10 (by decide))
          have e11 := f11 (hall 11 (by decide))
          have e12 := f12 (hall 12 (by decide))
          clear f0 f1 f2 f3 f4 f5 f6 f7 f8 f9 f10 f11 f12
          obtain ⟨-, w5, b5, o5, rfl⟩ := e12
          have hb1 : (⟨g, k * 3 + 2, none⟩ : Addr).block = g := rfl
          have hI : Below w2.heap.size w2 (w5.setCell ⟨g, k * 3 + 2, none⟩ t27) := (IW.trans (b5.mono IW.size)).setCell (p := ⟨g, k * 3 + 2, none⟩) hg1 _
          have hnew : ∀ u : Value, (∀ q, u.ownBlock = some q → q < wr.heap.size) → t27.ownBlock = none ∨ t27.ownBlock ≠ u.ownBlock := fun u hu => by
            cases e : t27.ownBlock with
            | none => exact .inl rfl
            | some q =>
              right
              intro e2
              have a1 := (World.ownsRow.lt o5 q e).1
              have a2 := hu q e2.symm
              omega
          have hS := (SS.out.below b5 (Nat.le_refl _)).next HLC.out HCK.out (o5.base (by have := IW.size; omega)) (fun u hu => hnew u (fun q hq => (SS.out.blocks hu hq).2))
          have hg3g : g3 ≠ g := fun e => by
            rcases AA.out _ (List.mem_cons_self ..) with h1 | h1
            · cases h1
            · exact h1 (by rw [e]; rfl)
          have hAP : Apart (some g3) (Value.slice (some ⟨g, 0, none⟩) n c7 :: Value.slice A9 h.rt.length d9 :: (ovs ++ [t27])) := by
            intro u hu
            rw [List.mem_cons, List.mem_cons, List.mem_append, List.mem_singleton] at hu
            rcases hu with rfl | rfl | hu | rfl
            · exact AA.out _ (by simp)
            · exact AA.out _ (by simp)
            · exact AA.out _ (by simp [hu])
            · cases e : u.ownBlock with
              | none => exact .inl rfl
              | some q =>
                right
                intro e2
                have a1 := (World.ownsRow.lt o5 q e).1
                have a2 := Option.some.inj e2
                omega
          have hBX : Rw (w5.setCell ⟨g, k * 3 + 2, none⟩ t27) g3 26 #[.slice (some ⟨g, 0, none⟩) n c7, .slice A9 h.rt.length d9] := (BB.out.keep b5 hbx).other hg3g t27
          obtain ⟨e11, -⟩ := e11
          clear e0 e1 e2 e3 e4 e5 e6 e7 e8 e9 e10 e11 hall I0 IW bw SS AA BB hnew b5 o5 hb1
          go_wp2_with fail
          go_roundw
          case rel => exact ⟨k + 1, ovs ++ [t27], by omega, by go_num, hS, hAP, hBX, hI⟩
          case measure => simp [intOf]; omega
      · obtain rfl : k = n := by omega
        have own := S.done HLC.out.symm
        have x0 := BX.cell 0
        have x1 := BX.cell 1
        simp only [List.getElem?_toArray, List.getElem?_cons_zero, List.getElem?_cons_succ] at x0 x1
        have q3 := Q2.keep IW hz
        have r2 : wr.frozen? ⟨w.heap.size + 1, 0, none⟩ = false := q3.frozen 0
        have r3 : wr.frozen? ⟨w.heap.size + 1, 1, none⟩ = false := q3.frozen 1
        have r4 : wr.cell? ⟨w.heap.size + 1, 0, none⟩ = some (.slice none 0 0) := q3.cell 0
        have r5 : wr.cell? ⟨w.heap.size + 1, 1, none⟩ = some (.slice none 0 0) := q3.cell 1
        have r6 : ((wr.setCell ⟨w.heap.size + 1, 0, none⟩ (.slice A7 k c7)).setCell ⟨w.heap.size + 1, 1, none⟩ (.slice A9 h.rt.length d9)).cell? ⟨w.heap.size + 1, 0, none⟩ = some (.slice A7 k c7) := ((q3.put 0 (.slice A7 k c7)).put 1 (.slice A9 h.rt.length d9)).cell 0
        have r7 : ((wr.setCell ⟨w.heap.size + 1, 0, none⟩ (.slice A7 k c7)).setCell ⟨w.heap.size + 1, 1, none⟩ (.slice A9 h.rt.length d9)).cell? ⟨w.heap.size + 1, 1, none⟩ = some (.slice A9 h.rt.length d9) := ((q3.put 0 (.slice A7 k c7)).put 1 (.slice A9 h.rt.length d9)).cell 1
        have D := Lib.hid (OwnH.out (w := w) (g := w.heap.size + 1) ⟨ovs, own⟩ (by omega) bw (by omega))
        clear own S AP BX q3 bw IW B2 Q1 Q2
        go_wp2_with fail
        exact bodyPost_ret (v := .agg #[.slice A7 k c7, .slice A9 h.rt.length d9]) (by simp [results, Tryd.results72, go_sem, *]) rfl ⟨_, _, rfl, D.out.1, D.out.2⟩
end Go.Proofs.YtfgdenmlfloloaaDoor

namespace Go.Proofs.YtfgdenmlfloloaaDoor
open Go.RowKit
set_option maxRecDepth 100000
theorem upTo_any (x m : Int) (w : World) : Calls Tryd.prog 136 #[.int .i64 x, .int .i64 m] w fun e w' => e = .returned (.bool (Hps.inR x 0 m)) ∧ w = w' := by
  by_cases h0 : 0 ≤ x
  · have d0 : decide (0 ≤ x) = true := decide_eq_true h0
    have R := Lib.hid (show Hps.inR x 0 m = decide (x ≤ m) by simp [Hps.inR, h0])
    go_enter Tryd.func136, Tryd.ntmps136
    go_wp2_with fail
    go_ret
    exact ⟨by rw [R.out]; rfl, rfl⟩
  · have d0 : decide (0 ≤ x) = false := decide_eq_false h0
    have R := Lib.hid (show Hps.inR x 0 m = false by simp [Hps.inR, h0])
    go_enter Tryd.func136, Tryd.ntmps136
    go_wp2_with fail
    go_ret
    exact ⟨by rw [R.out]; rfl, rfl⟩
theorem upTo_is (x m : Int) (b : Bool) (w : World) (h : Hps.inR x 0 m = b) : Calls Tryd.prog 136 #[.int .i64 x, .int .i64 m] w fun e w' => e = .returned (.bool b) ∧ w = w' := h ▸ upTo_any x m w
/-- an operation of the table -/
abbrev opA (x y z : Int) (f g : Nat) : Value := .agg #[.int .i64 x, .int .i64 y, .int .i64 z, .func (.func f) #[] #[], .func (.func g) #[] #[]]
/-- none -/
abbrev opZ : Value := .agg #[.int .i64 0, .int .i64 0, .int .i64 0, .nilFunc, .nilFunc]
abbrev op1 : Value := opA 3 3 99 126 127
abbrev op2 : Value := opA 3 3 2 128 129
abbrev op3 : Value := opA 3 3 2 130 131
abbrev op4 : Value := opA 3 3 0 126 132
abbrev op5 : Value := opA 3 0 0 126 133
abbrev op6 : Value := opA 3 99 0 134 135
/-- the cells of the table -/
def opsC : Array Value := opZ.cells ++ op1.cells ++ op2.cells ++ op3.cells ++ op4.cells ++ op5.cells ++ op6.cells
/-- the table -/
abbrev opsV : Value := .agg opsC
theorem info_ops : (Tryd.prog.info? 143).map (·.size) = some opsC.size := by kernel_rfl
theorem opsC_one : opsC.all (·.oneCell') = true := by decide +kernel
/-- a table is stored whole -/
theorem wpList_storeOps {w : World} {ops : Array Oper} {rest : List Oper} {o : Oper} {a : Act} {Q : Exit → Act → World → Prop} (p v : Operand) (g : Nat) (c : Array Value) (hgd : o.guard = none) (ho : o.op = .store 143 p v)
    (hp : a.eval p = .pointer (some ⟨g, 0, none⟩)) (hv : a.eval v = opsV) (hr : Rw w g 143 c) (hs : c.size = 35) (hd : o.dst = none)
    (h : wpList Tryd.prog ops Q rest a (w.setRow g opsC)) : wpList Tryd.prog ops Q (o :: rest) a w :=
  wpList_plain hgd fun K hK => by
    have hst := run_storeVar_row (P := Tryd.prog) w g 143 143 c opsC hr info_ops (by rw [hs]; rfl) opsC_one
    unfold Oper.wp execOp
    simp only [ho, hp, hv, Instr.storeAt, Instr.sureAddr, Sem.run_bind, Sem.run_pure, Result.andThen_ok, hst]
    exact hK (a.put o.dst undef) _ (by rw [hd]; exact h)
theorem rw_row {w : World} {g : Nat} {t : TypeId} {c : Array Value} (h : Rw w g t c) (c' : Array Value) : Rw (w.setRow g c') g t c' := by
  unfold Rw at h ⊢
  simp [World.setRow, Array.getElem?_modify, h]
set_option maxHeartbeats 4000000 in
theorem operations_any (w : World) : Calls Tryd.prog 112 #[] w fun e w' => e = .returned opsV ∧ Below w.heap.size w w' := by
  go_enter Tryd.func112, Tryd.ntmps112
  go_wp2_with (with_reducible refine wpList_storeOps _ _ _ _ rfl rfl rfl ?hv (Rw.new _ _ _) ?hs rfl ?_)
  · rfl
  · rfl
  have hrow := rw_row (Rw.new w 143 opsC) opsC
  rw [World.setRow_alloc_new] at hrow ⊢
  have hld := run_loadVar_row (P := Tryd.prog) _ w.heap.size _ _ _ (0, 0) _ hrow Tryd.underlying143 rfl info_ops
  refine bodyPost_ret (v := opsV) ?_ rfl ⟨rfl, (Below.refl _ _).alloc (Nat.le_refl _) _⟩
  simp [results, Tryd.results112, asAddr, hld]
set_option maxHeartbeats 1000000 in
theorem takes_any (f g : Nat) (x y z : Int) (o : Cm) (w : World) : Calls Tryd.prog 113 #[opA x y z f g, cmV o] w fun e w' => e = .returned (.bool (Hps.inR o.a 0 x && Hps.inR o.b 0 y && Hps.inR o.c 0 z)) ∧ Below w.heap.size w w' := by
  obtain ⟨op, a, b, c⟩ := o
  have bb : Below w.heap.size w ((w.alloc (.cells #[.int .i64 x, .int .i64 y, .int .i64 z, .func (.func f) #[] #[], .func (.func g) #[] #[]] 111)).alloc (.cells #[.int .i64 op, .int .i64 a, .int .i64 b, .int .i64 c] 36)) := ((Below.refl _ _).alloc (Nat.le_refl _) _).alloc (by simp) _
  obtain ⟨xa, ha⟩ : ∃ u, Hps.inR a 0 x = u := ⟨_, rfl⟩
  obtain ⟨xb, hb⟩ : ∃ u, Hps.inR b 0 y = u := ⟨_, rfl⟩
  obtain ⟨xc, hc⟩ : ∃ u, Hps.inR c 0 z = u := ⟨_, rfl⟩
  have HA := Lib.hid ha
  have HB := Lib.hid hb
  have HC := Lib.hid hc
  clear ha hb hc
  go_enter Tryd.func113, Tryd.ntmps113
  go_wp2_with fail
  refine (upTo_is _ _ _ _ HA.out).mono ?_
  rintro e w1 ⟨rfl, rfl⟩
  cases xa
  · go_wp2_with fail
    go_ret
    exact ⟨by rw [HA.out]; rfl, bb⟩
  go_wp2_with fail
  refine (upTo_is _ _ _ _ HB.out).mono ?_
  rintro e w1 ⟨rfl, rfl⟩
  cases xb
  · go_wp2_with fail
    go_ret
    exact ⟨by rw [HA.out, HB.out]; rfl, bb⟩
  go_wp2_with fail
  refine (upTo_is _ _ _ _ HC.out).mono ?_
  rintro e w1 ⟨rfl, rfl⟩
  go_wp2_with fail
  go_ret
  exact ⟨by rw [HA.out, HB.out, HC.out]; rfl, bb⟩
theorem run_op1 (w : World) : (Instr.index 143 opsV (.int .i64 1)).run Tryd.prog w = .ok op1 w := by kernel_rfl
theorem run_op2 (w : World) : (Instr.index 143 opsV (.int .i64 2)).run Tryd.prog w = .ok op2 w := by kernel_rfl
theorem run_op3 (w : World) : (Instr.index 143 opsV (.int .i64 3)).run Tryd.prog w = .ok op3 w := by kernel_rfl
theorem run_op4 (w : World) : (Instr.index 143 opsV (.int .i64 4)).run Tryd.prog w = .ok op4 w := by kernel_rfl
theorem run_op5 (w : World) : (Instr.index 143 opsV (.int .i64 5)).run Tryd.prog w = .ok op5 w := by kernel_rfl
theorem run_op6 (w : World) : (Instr.index 143 opsV (.int .i64 6)).run Tryd.prog w = .ok op6 w := by kernel_rfl
end Go.Proofs.YtfgdenmlfloloaaDoor

namespace Go.Proofs.YtfgdenmlfloloaaDoor
open Go.RowKit
set_option maxRecDepth 100000
set_option maxHeartbeats 1000000 in
theorem operationOf_bad (o : Cm) (w : World) (h : o.op < 1 ∨ 6 < o.op) : Calls Tryd.prog 71 #[cmV o] w fun e w' => e = .returned (.tuple #[opZ, .bool false]) ∧ Below w.heap.size w w' := by
  obtain ⟨k, a, b, c⟩ := o
  simp only at h
  have b1 : Below w.heap.size w ((w.alloc (.cells #[.int .i64 k, .int .i64 a, .int .i64 b, .int .i64 c] 36)).alloc (.cells #[.int .i64 0, .int .i64 0, .int .i64 0, .nilFunc, .nilFunc] 111)) := ((Below.refl _ _).alloc (Nat.le_refl _) _).alloc (by simp) _
  have q1 := Rw.new (w.alloc (.cells #[.int .i64 k, .int .i64 a, .int .i64 b, .int .i64 c] 36)) 111 #[.int .i64 0, .int .i64 0, .int .i64 0, .nilFunc, .nilFunc]
  simp only [World.size_alloc] at q1
  by_cases h1 : k < 1
  · go_enter Tryd.func71, Tryd.ntmps71
    go_wp2_with fail
    exact bodyPost_ret (v := .tuple #[opZ, .bool false]) (by simp [results, Tryd.results71, go_sem, *]) rfl ⟨rfl, b1⟩
  · have d1 : decide (k < 1) = false := decide_eq_false h1
    have h2 : 6 < k := by omega
    go_enter Tryd.func71, Tryd.ntmps71
    go_wp2_with fail
    exact bodyPost_ret (v := .tuple #[opZ, .bool false]) (by simp [results, Tryd.results71, go_sem, *]) rfl ⟨rfl, b1⟩
set_option maxHeartbeats 4000000 in
theorem operationOf_walk (k x y z : Int) (f g : Nat) (a b c : Int) (w : World) (h1 : 1 ≤ k) (h6 : k ≤ 6) (hix : ∀ w, (Instr.index 143 opsV (.int .i64 k)).run Tryd.prog w = .ok (opA x y z f g) w) :
    Calls Tryd.prog 71 #[cmV ⟨k, a, b, c⟩] w fun e w' => e = .returned (.tuple #[opA x y z f g, .bool (Hps.inR a 0 x && Hps.inR b 0 y && Hps.inR c 0 z)]) ∧ Below w.heap.size w w' := by
  have HIX := Lib.hid hix
  obtain ⟨r, hr⟩ : ∃ r, (Hps.inR a 0 x && Hps.inR b 0 y && Hps.inR c 0 z) = r := ⟨_, rfl⟩
  rw [hr]
  have HR := Lib.hid hr
  have d1 : decide (k < 1) = false := decide_eq_false (by omega)
  have d2 : decide (6 < k) = false := decide_eq_false (by omega)
  clear h1 h6 hix hr
  have B2 : Below w.heap.size w ((w.alloc (.cells #[.int .i64 k, .int .i64 a, .int .i64 b, .int .i64 c] 36)).alloc (.cells #[.int .i64 0, .int .i64 0, .int .i64 0, .nilFunc, .nilFunc] 111)) := ((Below.refl _ _).alloc (Nat.le_refl _) _).alloc (by simp) _
  have Q1 := (Rw.new w 36 #[.int .i64 k, .int .i64 a, .int .i64 b, .int .i64 c]).alloc (.cells #[.int .i64 0, .int .i64 0, .int .i64 0, .nilFunc, .nilFunc] 111)
  have Q2 := Rw.new (w.alloc (.cells #[.int .i64 k, .int .i64 a, .int .i64 b, .int .i64 c] 36)) 111 #[.int .i64 0, .int .i64 0, .int .i64 0, .nilFunc, .nilFunc]
  simp only [World.size_alloc] at Q2
  go_enter Tryd.func71, Tryd.ntmps71
  go_upto_region 3 with fail
  generalize ((w.alloc (.cells #[.int .i64 k, .int .i64 a, .int .i64 b, .int .i64 c] 36)).alloc (.cells #[.int .i64 0, .int .i64 0, .int .i64 0, .nilFunc, .nilFunc] 111)) = w2 at B2 Q1 Q2 ⊢
  have hz := Q2.lt
  refine wp_region_inv (by kernel_rfl) (by kernel_rfl) (fun L ac ww => ∃ t4 t14 t15 t16 t17 : Value, ac = { tmps := #[cmV { op := k, a := a, b := b, c := c }, Value.pointer (some { block := w.heap.size, off := 0 }), Value.pointer (some { block := w.heap.size + 1, off := 0 }), Value.bool false, t4, Value.pointer (some { block := w.heap.size, off := 0 }), Value.int IntKind.i64 k, Value.bool false, Value.bool false, Value.pointer (some { block := w.heap.size, off := 0 }), Value.int IntKind.i64 k, Value.bool false, Value.bool false, undef, t14, t15, t16, t17, undef, undef, undef, undef], defers := [] } ∧ (Below w2.heap.size w2 ww) ∧ (L 0 = true → t14 = opsV) ∧ (L 1 = true → t15 = .pointer (some ⟨w.heap.size, 0, none⟩)) ∧ (L 2 = true → t16 = .int .i64 k) ∧ (L 3 = true → t17 = opA x y z f g) ∧ (L 4 = true → ∃ g4, t4 = .pointer (some ⟨g4, 0, none⟩) ∧ w2.heap.size ≤ g4 ∧ ∃ cs, Rw ww g4 111 cs ∧ cs = (if L 5 = true then #[.int .i64 x, .int .i64 y, .int .i64 z, .func (.func f) #[] #[], .func (.func g) #[] #[]] else #[.int .i64 0, .int .i64 0, .int .i64 0, .nilFunc, .nilFunc])) ∧ (L 5 = true → L 4 = true ∧ True)) ?h0 ?hstep ?hdone
  case h0 => exact ⟨_, _, _, _, _, rfl, (Below.refl _ _).drew, (fun h => absurd h Bool.false_ne_true), (fun h => absurd h Bool.false_ne_true), (fun h => absurd h Bool.false_ne_true), (fun h => absurd h Bool.false_ne_true), (fun h => absurd h Bool.false_ne_true), (fun h => absurd h Bool.false_ne_true)⟩
  case hstep =>
    rintro L ac ww i o ho hL hd ⟨t4, t14, t15, t16, t17, rfl, I0, f0, f1, f2, f3, f4, f5⟩
    have hi : i < 6 := (Array.getElem?_eq_some_iff.1 ho).1
    obtain rfl | rfl | rfl | rfl | rfl | rfl : i = 0 ∨ i = 1 ∨ i = 2 ∨ i = 3 ∨ i = 4 ∨ i = 5 := by omega
    · obtain rfl := Option.some.inj ho
      refine wpOp_step rfl (fun K' hK => ?_)
      go_simp
      refine (operations_any ww).mono ?_
      rintro e w' ⟨rfl, b5⟩
      refine hK _ _ ?_
      exact ⟨_, _, _, _, _, rfl, (I0.trans (b5.mono I0.size)), (fun _ => rfl), (kp f1), (kp f2), (kp f3), (fun h => by
        obtain ⟨g4, e4, h4, cs, h5, h6⟩ := f4 (upd_ne h (by decide))
        exact ⟨g4, e4, h4, cs, h5.keep b5 h5.lt, by rw [h6, upd_other (by decide)]⟩), (fun h => ⟨by first | exact upd_self | (rw [upd_other (by decide)]; exact (f5 (upd_ne h (by decide))).1), trivial⟩)⟩
    · obtain rfl := Option.some.inj ho
      refine wpOp_step rfl (fun K' hK => ?_)
      go_simp
      refine hK _ _ ?_
      exact ⟨_, _, _, _, _, rfl, (I0), (kp f0), (fun _ => rfl), (kp f2), (kp f3), (fun h => by
        obtain ⟨g4, e4, h4, cs, h5, h6⟩ := f4 (upd_ne h (by decide))
        exact ⟨g4, e4, h4, cs, h5, by rw [h6, upd_other (by decide)]⟩), (fun h => ⟨by first | exact upd_self | (rw [upd_other (by decide)]; exact (f5 (upd_ne h (by decide))).1), trivial⟩)⟩
    · obtain rfl := Option.some.inj ho
      have g1 := f1 (hd ⟨1, .data⟩ (by simp) rfl)
      subst g1
      have z0 : ww.cell? ⟨w.heap.size, 0, none⟩ = some (.int .i64 k) := (I0.cell (p := ⟨w.heap.size, 0, none⟩) (by show w.heap.size < w2.heap.size; omega)).trans (Q1.cell 0)
      refine wpOp_step rfl (fun K' hK => ?_)
      go_simp
      refine hK _ _ ?_
      exact ⟨_, _, _, _, _, rfl, (I0), (kp f0), (kp f1), (fun _ => rfl), (kp f3), (fun h => by
        obtain ⟨g4, e4, h4, cs, h5, h6⟩ := f4 (upd_ne h (by decide))
        exact ⟨g4, e4, h4, cs, h5, by rw [h6, upd_other (by decide)]⟩), (fun h => ⟨by first | exact upd_self | (rw [upd_other (by decide)]; exact (f5 (upd_ne h (by decide))).1), trivial⟩)⟩
    · obtain rfl := Option.some.inj ho
      have g0 := f0 (hd ⟨0, .data⟩ (by simp) rfl)
      have g2 := f2 (hd ⟨2, .data⟩ (by simp) rfl)
      subst g0
      subst g2
      have hix := HIX.out ww
      refine wpOp_step rfl (fun K' hK => ?_)
      go_simp
      refine hK _ _ ?_
      exact ⟨_, _, _, _, _, rfl, (I0), (kp f0), (kp f1), (kp f2), (fun _ => rfl), (fun h => by
        obtain ⟨g4, e4, h4, cs, h5, h6⟩ := f4 (upd_ne h (by decide))
        exact ⟨g4, e4, h4, cs, h5, by rw [h6, upd_other (by decide)]⟩), (fun h => ⟨by first | exact upd_self | (rw [upd_other (by decide)]; exact (f5 (upd_ne h (by decide))).1), trivial⟩)⟩
    · obtain rfl := Option.some.inj ho
      have hL5 : L 5 = false := by
        cases e : L 5
        · rfl
        · exact absurd (f5 e).1 (by rw [hL]; decide)
      refine wpOp_step rfl (fun K' hK => ?_)
      go_simp
      refine hK _ _ ?_
      exact ⟨_, _, _, _, _, rfl, (I0.alloc I0.size _), (kp f0), (kp f1), (kp f2), (kp f3), (fun _ => ⟨_, rfl, I0.size, _, Rw.new _ _ _, by rw [upd_other (by decide), hL5, if_neg (by decide)]⟩), (fun h => ⟨by first | exact upd_self | (rw [upd_other (by decide)]; exact (f5 (upd_ne h (by decide))).1), trivial⟩)⟩
    · obtain rfl := Option.some.inj ho
      have g3 := f3 (hd ⟨3, .data⟩ (by simp) rfl)
      have g4 := f4 (hd ⟨4, .data⟩ (by simp) rfl)
      subst g3
      obtain ⟨g4, e4, h4, cs, h5, h6⟩ := g4
      rw [hL, if_neg (by decide)] at h6
      subst h6
      subst e4
      have l4 := hd ⟨4, .data⟩ (by simp) rfl
      have c0 := h5.cell 0
      have c1 := h5.cell 1
      have c2 := h5.cell 2
      have c3 := h5.cell 3
      have c4 := h5.cell 4
      have fz0 := h5.frozen 0
      have fz1 := h5.frozen 1
      have fz2 := h5.frozen 2
      have fz3 := h5.frozen 3
      have fz4 := h5.frozen 4
      simp only [List.getElem?_toArray, List.getElem?_cons_zero, List.getElem?_cons_succ] at c0 c1 c2 c3 c4
      have hput := ((((h5.put 0 (.int .i64 x)).put 1 (.int .i64 y)).put 2 (.int .i64 z)).put 3 (.func (.func f) #[] #[])).put 4 (.func (.func g) #[] #[])
      have hbel := ((((I0.setCell (p := ⟨g4, 0, none⟩) (by show w2.heap.size ≤ g4; omega) (.int .i64 x)).setCell (p := ⟨g4, 1, none⟩) (by show w2.heap.size ≤ g4; omega) (.int .i64 y)).setCell (p := ⟨g4, 2, none⟩) (by show w2.heap.size ≤ g4; omega) (.int .i64 z)).setCell (p := ⟨g4, 3, none⟩) (by show w2.heap.size ≤ g4; omega) (.func (.func f) #[] #[])).setCell (p := ⟨g4, 4, none⟩) (by show w2.heap.size ≤ g4; omega) (.func (.func g) #[] #[])
      refine wpOp_step rfl (fun K' hK => ?_)
      go_simp
      refine hK _ _ ?_
      exact ⟨_, _, _, _, _, rfl, (hbel), (kp f0), (kp f1), (kp f2), (kp f3), (fun _ => ⟨g4, rfl, h4, _, hput, by rw [upd_self, if_pos rfl]; rfl⟩), (fun _ => ⟨by rw [upd_other (by decide)]; exact l4, trivial⟩)⟩
  case hdone =>
    rintro L ac ww hall ⟨t4, t14, t15, t16, t17, rfl, I0, f0, f1, f2, f3, f4, f5⟩
    have e0 := f0 (hall 0 (by decide))
    have e1 := f1 (hall 1 (by decide))
    have e2 := f2 (hall 2 (by decide))
    have e3 := f3 (hall 3 (by decide))
    have e4 := f4 (hall 4 (by decide))
    have e5 := f5 (hall 5 (by decide))
    clear f0 f1 f2 f3 f4 f5
    obtain ⟨g4, rfl, hg4, cs, R4, e6⟩ := e4
    rw [hall 5 (by decide), if_pos rfl] at e6
    subst e6
    subst e0 e1 e2 e3
    clear e5 hall
    replace B2 := B2.trans (I0.mono B2.size)
    replace Q1 := Q1.keep I0 Q1.lt
    replace Q2 := Q2.keep I0 Q2.lt
    clear I0
    go_upto_region 4 with fail
    have hne : g4 ≠ w.heap.size + 1 := by omega
    refine wp_region_inv (by kernel_rfl) (by kernel_rfl) (fun L ac wv => ∃ t3 t18 t19 t20 t21 : Value, ac = { tmps := #[cmV { op := k, a := a, b := b, c := c }, Value.pointer (some { block := w.heap.size, off := 0 }), Value.pointer (some { block := w.heap.size + 1, off := 0 }), t3, Value.pointer (some { block := g4, off := 0 }), Value.pointer (some { block := w.heap.size, off := 0 }), Value.int IntKind.i64 k, Value.bool false, Value.bool false, Value.pointer (some { block := w.heap.size, off := 0 }), Value.int IntKind.i64 k, Value.bool false, Value.bool false, undef, opsV, Value.pointer (some { block := w.heap.size, off := 0 }), Value.int IntKind.i64 k, opA x y z f g, t18, t19, t20, t21], defers := [] } ∧ (Below w.heap.size w wv) ∧ (Rw wv g4 111 #[.int .i64 x, .int .i64 y, .int .i64 z, .func (.func f) #[] #[], .func (.func g) #[] #[]]) ∧ (Rw wv w.heap.size 36 #[.int .i64 k, .int .i64 a, .int .i64 b, .int .i64 c]) ∧ (Rw wv (w.heap.size + 1) 111 (if L 4 = true then #[.int .i64 x, .int .i64 y, .int .i64 z, .func (.func f) #[] #[], .func (.func g) #[] #[]] else #[.int .i64 0, .int .i64 0, .int .i64 0, .nilFunc, .nilFunc])) ∧ (L 0 = true → t18 = opA x y z f g) ∧ (L 1 = true → t19 = opA x y z f g) ∧ (L 2 = true → t20 = cmV ⟨k, a, b, c⟩) ∧ (L 3 = true → t21 = .bool r) ∧ (L 4 = true → True) ∧ (L 5 = true → t3 = .bool r)) ?h0 ?hstep ?hdone
    case h0 => exact ⟨_, _, _, _, _, rfl, B2.drew, (R4.keep (Below.refl _ _).drew R4.lt), (Q1.keep (Below.refl _ _).drew Q1.lt), by rw [if_neg (by decide)]; exact Q2.keep (Below.refl _ _).drew Q2.lt, (fun h => absurd h Bool.false_ne_true), (fun h => absurd h Bool.false_ne_true), (fun h => absurd h Bool.false_ne_true), (fun h => absurd h Bool.false_ne_true), (fun h => absurd h Bool.false_ne_true), (fun h => absurd h Bool.false_ne_true)⟩
    case hstep =>
      rintro L ac wv i o ho hL hd ⟨t3, t18, t19, t20, t21, rfl, I0, I1, I2, I3, f0, f1, f2, f3, f4, f5⟩
      have hi : i < 6 := (Array.getElem?_eq_some_iff.1 ho).1
      obtain rfl | rfl | rfl | rfl | rfl | rfl : i = 0 ∨ i = 1 ∨ i = 2 ∨ i = 3 ∨ i = 4 ∨ i = 5 := by omega
      · obtain rfl := Option.some.inj ho
        have I10_ := I1.cell 0
        have I11_ := I1.cell 1
        have I12_ := I1.cell 2
        have I13_ := I1.cell 3
        have I14_ := I1.cell 4
        simp only [List.getElem?_toArray, List.getElem?_cons_zero, List.getElem?_cons_succ] at I10_ I11_ I12_ I13_ I14_
        refine wpOp_step rfl (fun K' hK => ?_)
        go_simp
        refine hK _ _ ?_
        exact ⟨_, _, _, _, _, rfl, (I0), (I1), (I2), (by rw [upd_other (by decide)]; exact I3), (fun _ => rfl), (kp f1), (kp f2), (kp f3), (kp f4), (kp f5)⟩
      · obtain rfl := Option.some.inj ho
        have I10_ := I1.cell 0
        have I11_ := I1.cell 1
        have I12_ := I1.cell 2
        have I13_ := I1.cell 3
        have I14_ := I1.cell 4
        simp only [List.getElem?_toArray, List.getElem?_cons_zero, List.getElem?_cons_succ] at I10_ I11_ I12_ I13_ I14_
        refine wpOp_step rfl (fun K' hK => ?_)
        go_simp
        refine hK _ _ ?_
        exact ⟨_, _, _, _, _, rfl, (I0), (I1), (I2), (by rw [upd_other (by decide)]; exact I3), (kp f0), (fun _ => rfl), (kp f2), (kp f3), (kp f4), (kp f5)⟩
      · obtain rfl := Option.some.inj ho
        have I20_ := I2.cell 0
        have I21_ := I2.cell 1
        have I22_ := I2.cell 2
        have I23_ := I2.cell 3
        simp only [List.getElem?_toArray, List.getElem?_cons_zero, List.getElem?_cons_succ] at I20_ I21_ I22_ I23_
        refine wpOp_step rfl (fun K' hK => ?_)
        go_simp
        refine hK _ _ ?_
        exact ⟨_, _, _, _, _, rfl, (I0), (I1), (I2), (by rw [upd_other (by decide)]; exact I3), (kp f0), (kp f1), (fun _ => rfl), (kp f3), (kp f4), (kp f5)⟩
      · obtain rfl := Option.some.inj ho
        have g1 := f1 (hd ⟨1, .data⟩ (by simp) rfl)
        have g2 := f2 (hd ⟨2, .data⟩ (by simp) rfl)
        subst g1
        subst g2
        refine wpOp_step rfl (fun K' hK => ?_)
        go_simp
        refine (takes_any f g x y z ⟨k, a, b, c⟩ wv).mono ?_
        simp only [HR.out]
        rintro e w' ⟨rfl, b5⟩
        refine hK _ _ ?_
        exact ⟨_, _, _, _, _, rfl, (I0.trans (b5.mono I0.size)), (I1.keep b5 I1.lt), (I2.keep b5 I2.lt), (by rw [upd_other (by decide)]; exact I3.keep b5 I3.lt), (kp f0), (kp f1), (kp f2), (fun _ => rfl), (kp f4), (kp f5)⟩
      · obtain rfl := Option.some.inj ho
        have g0 := f0 (hd ⟨0, .data⟩ (by simp) rfl)
        subst g0
        rw [hL, if_neg (by decide)] at I3
        have P0 := I3
        have P00_ := P0.cell 0
        have P01_ := P0.cell 1
        have P02_ := P0.cell 2
        have P03_ := P0.cell 3
        have P04_ := P0.cell 4
        simp only [List.getElem?_toArray, List.getElem?_cons_zero, List.getElem?_cons_succ] at P00_ P01_ P02_ P03_ P04_
        have fz0 := P0.frozen 0
        have fz1 := P0.frozen 1
        have fz2 := P0.frozen 2
        have fz3 := P0.frozen 3
        have fz4 := P0.frozen 4
        refine wpOp_step rfl (fun K' hK => ?_)
        go_simp
        refine hK _ _ ?_
        exact ⟨_, _, _, _, _, rfl, ((((((I0.setCell (p := ⟨w.heap.size + 1, 0, none⟩) (by show w.heap.size ≤ w.heap.size + 1; omega) (.int .i64 x)).setCell (p := ⟨w.heap.size + 1, 1, none⟩) (by show w.heap.size ≤ w.heap.size + 1; omega) (.int .i64 y)).setCell (p := ⟨w.heap.size + 1, 2, none⟩) (by show w.heap.size ≤ w.heap.size + 1; omega) (.int .i64 z)).setCell (p := ⟨w.heap.size + 1, 3, none⟩) (by show w.heap.size ≤ w.heap.size + 1; omega) (.func (.func f) #[] #[])).setCell (p := ⟨w.heap.size + 1, 4, none⟩) (by show w.heap.size ≤ w.heap.size + 1; omega) (.func (.func g) #[] #[]))), ((((((I1.other hne (.int .i64 x)).other hne (.int .i64 y)).other hne (.int .i64 z)).other hne (.func (.func f) #[] #[])).other hne (.func (.func g) #[] #[]))), ((((((I2.other (by omega) (.int .i64 x)).other (by omega) (.int .i64 y)).other (by omega) (.int .i64 z)).other (by omega) (.func (.func f) #[] #[])).other (by omega) (.func (.func g) #[] #[]))), (by rw [upd_self, if_pos rfl]; exact (((((P0.put 0 (.int .i64 x)).put 1 (.int .i64 y)).put 2 (.int .i64 z)).put 3 (.func (.func f) #[] #[])).put 4 (.func (.func g) #[] #[]))), (kp f0), (kp f1), (kp f2), (kp f3), (fun _ => trivial), (kp f5)⟩
      · obtain rfl := Option.some.inj ho
        have g3 := f3 (hd ⟨3, .data⟩ (by simp) rfl)
        subst g3
        refine wpOp_step rfl (fun K' hK => ?_)
        go_simp
        refine hK _ _ ?_
        exact ⟨_, _, _, _, _, rfl, (I0), (I1), (I2), (by rw [upd_other (by decide)]; exact I3), (kp f0), (kp f1), (kp f2), (kp f3), (kp f4), (fun _ => rfl)⟩
    case hdone =>
      rintro L ac wv hall ⟨t3, t18, t19, t20, t21, rfl, I0, I1, I2, I3, f0, f1, f2, f3, f4, f5⟩
      have e0 := f0 (hall 0 (by decide))
      have e1 := f1 (hall 1 (by decide))
      have e2 := f2 (hall 2 (by decide))
      have e3 := f3 (hall 3 (by decide))
      have e4 := f4 (hall 4 (by decide))
      have e5 := f5 (hall 5 (by decide))
      clear f0 f1 f2 f3 f4 f5
      rw [hall 4 (by decide), if_pos rfl] at I3
      subst e0 e1 e2 e3 e5
      clear e4 hall I1 I2 R4 Q1 Q2 B2
      have I30_ := I3.cell 0
      have I31_ := I3.cell 1
      have I32_ := I3.cell 2
      have I33_ := I3.cell 3
      have I34_ := I3.cell 4
      simp only [List.getElem?_toArray, List.getElem?_cons_zero, List.getElem?_cons_succ] at I30_ I31_ I32_ I33_ I34_
      go_wp2_with fail
      exact bodyPost_ret (v := .tuple #[opA x y z f g, .bool r]) (by simp [results, Tryd.results71, go_sem, *]) rfl ⟨rfl, I0⟩
theorem Hps.inR_zero {n : Int} : Hps.inR n 0 0 = decide (n = 0) := by
  unfold Hps.inR
  rw [← Bool.decide_and, decide_eq_decide]
  omega
theorem operationOf_1 (a b c : Int) (w : World) : Calls Tryd.prog 71 #[cmV ⟨1, a, b, c⟩] w fun e w' => e = .returned (.tuple #[op1, .bool (Hps.okCm ⟨1, a, b, c⟩)]) ∧ Below w.heap.size w w' := by
  have := operationOf_walk 1 3 3 99 _ _ a b c w (by omega) (by omega) run_op1
  rw [show Hps.okCm ⟨1, a, b, c⟩ = (Hps.inR a 0 3 && Hps.inR b 0 3 && Hps.inR c 0 99) by simp [Hps.okCm]]
  exact this
theorem operationOf_2 (a b c : Int) (w : World) : Calls Tryd.prog 71 #[cmV ⟨2, a, b, c⟩] w fun e w' => e = .returned (.tuple #[op2, .bool (Hps.okCm ⟨2, a, b, c⟩)]) ∧ Below w.heap.size w w' := by
  have := operationOf_walk 2 3 3 2 _ _ a b c w (by omega) (by omega) run_op2
  rw [show Hps.okCm ⟨2, a, b, c⟩ = (Hps.inR a 0 3 && Hps.inR b 0 3 && Hps.inR c 0 2) by simp [Hps.okCm]]
  exact this
theorem operationOf_3 (a b c : Int) (w : World) : Calls Tryd.prog 71 #[cmV ⟨3, a, b, c⟩] w fun e w' => e = .returned (.tuple #[op3, .bool (Hps.okCm ⟨3, a, b, c⟩)]) ∧ Below w.heap.size w w' := by
  have := operationOf_walk 3 3 3 2 _ _ a b c w (by omega) (by omega) run_op3
  rw [show Hps.okCm ⟨3, a, b, c⟩ = (Hps.inR a 0 3 && Hps.inR b 0 3 && Hps.inR c 0 2) by simp [Hps.okCm]]
  exact this
theorem operationOf_4 (a b c : Int) (w : World) : Calls Tryd.prog 71 #[cmV ⟨4, a, b, c⟩] w fun e w' => e = .returned (.tuple #[op4, .bool (Hps.okCm ⟨4, a, b, c⟩)]) ∧ Below w.heap.size w w' := by
  have := operationOf_walk 4 3 3 0 _ _ a b c w (by omega) (by omega) run_op4
  rw [show Hps.okCm ⟨4, a, b, c⟩ = (Hps.inR a 0 3 && Hps.inR b 0 3 && Hps.inR c 0 0) by simp [Hps.okCm, Hps.inR_zero]]
  exact this
theorem operationOf_5 (a b c : Int) (w : World) : Calls Tryd.prog 71 #[cmV ⟨5, a, b, c⟩] w fun e w' => e = .returned (.tuple #[op5, .bool (Hps.okCm ⟨5, a, b, c⟩)]) ∧ Below w.heap.size w w' := by
  have := operationOf_walk 5 3 0 0 _ _ a b c w (by omega) (by omega) run_op5
  rw [show Hps.okCm ⟨5, a, b, c⟩ = (Hps.inR a 0 3 && Hps.inR b 0 0 && Hps.inR c 0 0) by simp [Hps.okCm, Hps.inR_zero]]
  exact this
theorem operationOf_6 (a b c : Int) (w : World) : Calls Tryd.prog 71 #[cmV ⟨6, a, b, c⟩] w fun e w' => e = .returned (.tuple #[op6, .bool (Hps.okCm ⟨6, a, b, c⟩)]) ∧ Below w.heap.size w w' := by
  have := operationOf_walk 6 3 99 0 _ _ a b c w (by omega) (by omega) run_op6
  rw [show Hps.okCm ⟨6, a, b, c⟩ = (Hps.inR a 0 3 && Hps.inR b 0 99 && Hps.inR c 0 0) by simp [Hps.okCm, Hps.inR_zero]]
  exact this
theorem Hps.okCm_none {o : Cm} (h : o.op < 1 ∨ 6 < o.op) : Hps.okCm o = false := by
  cases e : Hps.okCm o
  · rfl
  · have := Hps.okCm_op e
    omega
/-- the operation of whatever instruction -/
theorem operationOf_any (o : Cm) (w : World) : Calls Tryd.prog 71 #[cmV o] w fun e w' => (∃ p, e = .returned (.tuple #[p, .bool (Hps.okCm o)]) ∧ (p = opZ ∨ ∃ x y z f g, p = opA x y z f g)) ∧ Below w.heap.size w w' := by
  obtain ⟨op, a, b, c⟩ := o
  by_cases h : op < 1 ∨ 6 < op
  · refine (operationOf_bad ⟨op, a, b, c⟩ w h).mono ?_
    rintro e w1 ⟨rfl, b1⟩
    exact ⟨⟨_, by rw [Hps.okCm_none (o := ⟨op, a, b, c⟩) h], .inl rfl⟩, b1⟩
  · obtain rfl | rfl | rfl | rfl | rfl | rfl : op = 1 ∨ op = 2 ∨ op = 3 ∨ op = 4 ∨ op = 5 ∨ op = 6 := by omega
    · exact (operationOf_1 a b c w).mono fun _ _ h => ⟨⟨_, h.1, .inr ⟨_, _, _, _, _, rfl⟩⟩, h.2⟩
    · exact (operationOf_2 a b c w).mono fun _ _ h => ⟨⟨_, h.1, .inr ⟨_, _, _, _, _, rfl⟩⟩, h.2⟩
    · exact (operationOf_3 a b c w).mono fun _ _ h => ⟨⟨_, h.1, .inr ⟨_, _, _, _, _, rfl⟩⟩, h.2⟩
    · exact (operationOf_4 a b c w).mono fun _ _ h => ⟨⟨_, h.1, .inr ⟨_, _, _, _, _, rfl⟩⟩, h.2⟩
    · exact (operationOf_5 a b c w).mono fun _ _ h => ⟨⟨_, h.1, .inr ⟨_, _, _, _, _, rfl⟩⟩, h.2⟩
    · exact (operationOf_6 a b c w).mono fun _ _ h => ⟨⟨_, h.1, .inr ⟨_, _, _, _, _, rfl⟩⟩, h.2⟩
set_option maxHeartbeats 1000000 in
theorem commandValid_any (o : Cm) (w : World) : Calls Tryd.prog 58 #[cmV o] w fun e w' => e = .returned (.bool (Hps.okCm o)) ∧ Below w.heap.size w w' := by
  have b1 : Below w.heap.size w (w.alloc (.cells #[.int .i64 o.op, .int .i64 o.a, .int .i64 o.b, .int .i64 o.c] 36)) := (Below.refl _ _).alloc (Nat.le_refl _) _
  obtain ⟨r, hr⟩ : ∃ r, Hps.okCm o = r := ⟨_, rfl⟩
  go_enter Tryd.func58, Tryd.ntmps58
  go_wp2_with fail
  refine (operationOf_any o _).mono ?_
  rw [hr]
  have HR := Lib.hid hr
  clear hr
  rintro e w1 ⟨⟨p, rfl, hp⟩, b2⟩
  have b3 := b1.trans (b2.mono b1.size)
  have hs := b3.size
  clear b1 b2
  rcases hp with rfl | ⟨x, y, z, f, g, rfl⟩
  · go_wp2_with fail
    go_ret
    exact ⟨by rw [HR.out]; rfl, b3.alloc hs _⟩
  · go_wp2_with fail
    go_ret
    exact ⟨by rw [HR.out]; rfl, b3.alloc hs _⟩
end Go.Proofs.YtfgdenmlfloloaaDoor

namespace Go.Proofs.YtfgdenmlfloloaaDoor
open Go.RowKit
set_option maxRecDepth 100000
theorem okRef_form {cs : List Cl} {x : Int} (h : Hps.okRef cs x = true) : x = -1 ∨ ∃ y : Nat, x = y ∧ y < cs.length := by
  by_cases h0 : 0 ≤ x
  · obtain ⟨y, e, hy, _⟩ := Hps.okRef_nat h h0
    exact .inr ⟨y, e, hy⟩
  · have := Hps.okRef_lo h
    have hlo : -1 ≤ x := by
      rcases Hps.okRef_iff.1 h with e | e
      · omega
      · omega
    exact .inl (by omega)
set_option maxHeartbeats 1000000 in
theorem hasRef_any (A R : Option Addr) (n c m d : Nat) (h : Hp) (k : Nat) (p x : Int) (w : World) (hs : HS w w.heap.size A n R m h) (_hn : n ≤ 1099511627776) (hx : h.rt[k]? = some x) (ho : Hps.okRef h.cs x = true) :
    Calls Tryd.prog 141 #[heapV A n c R m d, .int .i64 k, .int .i64 p] w fun e w' => e = .returned (.bool (Hps.placeH h.cs x p)) ∧ Below w.heap.size w w' := by
  have hlc := hs.cells.1
  have hlr := hs.roots.1
  have bb : Below w.heap.size w (w.alloc (.cells #[.slice A n c, .slice R m d] 26)) := (Below.refl _ _).alloc (Nat.le_refl _) _
  have hkm : k < m := by have := (List.getElem?_eq_some_iff.1 hx).1; omega
  obtain ⟨g, og, x', rfl, hg, hx', d1⟩ := (hs.roots.below bb).at_ (k := k) hkm
  rw [hx] at hx'
  obtain rfl := Option.some.inj hx'
  have hkm' : (k : Int) < m := by omega
  rcases okRef_form ho with rfl | ⟨y, rfl, hy⟩
  · have HP := Lib.hid (show Hps.placeH h.cs (-1) p = false by simp [Hps.placeH])
    clear hx hx' ho
    go_enter Tryd.func141, Tryd.ntmps141
    go_wp2_with fail
    go_ret
    exact ⟨by rw [HP.out]; rfl, bb⟩
  · obtain ⟨g2, o2, cl, A', m', cc, rfl, hg2, hcl, e1, e2, e3, hmc, hi⟩ := (hs.cells.below bb).at_ (k := y) (by omega)
    have hyn : (y : Int) < n := by omega
    have hne : ((y : Int) != -1) = true := by rw [bne_iff_ne]; omega
    have HP := Lib.hid (show Hps.placeH h.cs (y : Int) p = decide (p < (m' : Int)) by
      simp [Hps.placeH, hcl, hi.1])
    clear ho hcl hy e1 e2 hi hx hx'
    go_enter Tryd.func141, Tryd.ntmps141
    go_wp2_with fail
    go_ret
    exact ⟨by rw [HP.out]; rfl, bb⟩
/-- a function with a body is entered -/
theorem run_entered {f : Nat} {fn : Func} (hf : Tryd.prog.funcs[f]? = some fn) (hn : (fn.name == "runtime.NumGoroutine") = false) (hb : fn.body.isNone = false) (args : Array Value) (w : World) : (callFunc f args).run Tryd.prog w = .ok (.enter f args) w := by
  unfold callFunc
  simp only [Sem.run_bind, run_program, Result.andThen_ok, hf, hn, hb, Bool.false_eq_true, if_false]
  rfl
/-- what CommandPossible asks of the function in the table -/
def PossF (f : Nat) (o : Cm) (h : Hp) : Prop := ∀ (A R : Option Addr) (n c m d : Nat) (w : World), HS w w.heap.size A n R m h → n ≤ 1099511627776 → m ≤ 1099511627776 → n ≤ c → m ≤ d →
  Calls Tryd.prog f #[cmV o, heapV A n c R m d] w fun e w' => e = .returned (.bool (Hps.canH h o)) ∧ Below w.heap.size w w'
theorem poss_always {o : Cm} {h : Hp} (hc : Hps.canH h o = true) : PossF 126 o h := by
  intro A R n c m d w _ _ _ _ _
  rw [hc]
  have bb : Below w.heap.size w ((w.alloc (.cells #[.int .i64 o.op, .int .i64 o.a, .int .i64 o.b, .int .i64 o.c] 36)).alloc (.cells #[.slice A n c, .slice R m d] 26)) := ((Below.refl _ _).alloc (Nat.le_refl _) _).alloc (by simp) _
  go_enter Tryd.func126, Tryd.ntmps126
  go_wp2_with fail
  go_ret
  exact ⟨rfl, bb⟩
set_option maxHeartbeats 1000000 in
theorem poss_get {o : Cm} {h : Hp} (hv : Hps.validH h = true) (ho : Hps.okCm o = true) (e2 : o.op = 2) : PossF 128 o h := by
  intro A R n c m d w hs hn hm hc hd
  have R0 := Lib.hid (Hps.canH_get hv ho e2)
  obtain ⟨_, ⟨hb1, hb2⟩, _⟩ := (Hps.okCm_get (.inl e2)).1 ho
  obtain ⟨b, hbn⟩ := Int.eq_ofNat_of_zero_le hb1
  have hr4 := (Hps.valid_iff.1 hv).2.2.1
  have hx := List.getElem?_eq_getElem (show b < h.rt.length by omega)
  generalize h.rt[b]'(by omega) = x at hx
  have HRt := Lib.hid (Hps.rootAt_nat hx)
  have ok := Hps.valid_root hv hx
  obtain ⟨op, a, b', cc⟩ := o
  simp only at hbn
  subst hbn
  have bb : Below w.heap.size w ((w.alloc (.cells #[.int .i64 op, .int .i64 a, .int .i64 b, .int .i64 cc] 36)).alloc (.cells #[.slice A n c, .slice R m d] 26)) := ((Below.refl _ _).alloc (Nat.le_refl _) _).alloc (by simp) _
  have s2 := hs.up bb
  clear hb1 hb2 e2 ho hr4
  go_enter Tryd.func128, Tryd.ntmps128
  go_wp2_with fail
  refine (hasRef_any _ _ _ _ _ _ h b cc x _ s2 hn hx ok).mono ?_
  rintro e w1 ⟨rfl, b1⟩
  have b3 := bb.trans (b1.mono bb.size)
  go_wp2_with fail
  go_ret
  exact ⟨by rw [R0.out]; simp only [HRt.out]; rfl, b3⟩
set_option maxHeartbeats 1000000 in
theorem poss_set {o : Cm} {h : Hp} (hv : Hps.validH h = true) (ho : Hps.okCm o = true) (e2 : o.op = 3) : PossF 130 o h := by
  intro A R n c m d w hs hn hm hc hd
  have R0 := Lib.hid (Hps.canH_set hv ho e2)
  obtain ⟨hb1, hb2⟩ := Hps.okCm_a ho
  obtain ⟨b, hbn⟩ := Int.eq_ofNat_of_zero_le hb1
  have hr4 := (Hps.valid_iff.1 hv).2.2.1
  have hx := List.getElem?_eq_getElem (show b < h.rt.length by omega)
  generalize h.rt[b]'(by omega) = x at hx
  have HRt := Lib.hid (Hps.rootAt_nat hx)
  have ok := Hps.valid_root hv hx
  obtain ⟨op, a, b', cc⟩ := o
  simp only at hbn
  subst hbn
  have bb : Below w.heap.size w ((w.alloc (.cells #[.int .i64 op, .int .i64 b, .int .i64 b', .int .i64 cc] 36)).alloc (.cells #[.slice A n c, .slice R m d] 26)) := ((Below.refl _ _).alloc (Nat.le_refl _) _).alloc (by simp) _
  have s2 := hs.up bb
  clear hb1 hb2 e2 ho hr4
  go_enter Tryd.func130, Tryd.ntmps130
  go_wp2_with fail
  refine (hasRef_any _ _ _ _ _ _ h b cc x _ s2 hn hx ok).mono ?_
  rintro e w1 ⟨rfl, b1⟩
  have b3 := bb.trans (b1.mono bb.size)
  go_wp2_with fail
  go_ret
  exact ⟨by rw [R0.out]; simp only [HRt.out]; rfl, b3⟩
set_option maxHeartbeats 1000000 in
theorem poss_data {o : Cm} {h : Hp} (hv : Hps.validH h = true) (ho : Hps.okCm o = true) (e2 : o.op = 6) : PossF 134 o h := by
  intro A R n c m d w hs hn hm hc hd
  have R0 := Lib.hid (Hps.canH_data hv ho e2)
  obtain ⟨hb1, hb2⟩ := Hps.okCm_a ho
  obtain ⟨b, hbn⟩ := Int.eq_ofNat_of_zero_le hb1
  have hr4 := (Hps.valid_iff.1 hv).2.2.1
  have hx := List.getElem?_eq_getElem (show b < h.rt.length by omega)
  generalize h.rt[b]'(by omega) = x at hx
  have HRt := Lib.hid (Hps.rootAt_nat hx)
  have ok := Hps.valid_root hv hx
  obtain ⟨op, a, b', cc⟩ := o
  simp only at hbn
  subst hbn
  have bb : Below w.heap.size w ((w.alloc (.cells #[.int .i64 op, .int .i64 b, .int .i64 b', .int .i64 cc] 36)).alloc (.cells #[.slice A n c, .slice R m d] 26)) := ((Below.refl _ _).alloc (Nat.le_refl _) _).alloc (by simp) _
  have s2 := hs.below bb
  have hlr := hs.roots.1
  have hb4 : b < m := by
    simp only at hb2
    omega
  obtain ⟨g, og, x', rfl, hg, hx', d1⟩ := s2.roots.at_ (k := b) hb4
  rw [hx] at hx'
  obtain rfl := Option.some.inj hx'
  have hbm : (b : Int) < m := by exact_mod_cast hb4
  have HV := Lib.hid (show (x != -1) = decide (0 ≤ x) by
    rcases okRef_form ok with rfl | ⟨y, rfl, _⟩
    · rfl
    · rw [decide_eq_true (by omega : (0 : Int) ≤ (y : Int)), bne_iff_ne]
      omega)
  clear hb1 hb2 e2 ho hr4 hx hx' s2 hlr hs
  go_enter Tryd.func134, Tryd.ntmps134
  go_wp2_with fail
  go_ret
  exact ⟨by rw [R0.out]; simp only [HRt.out]; rw [← HV.out]; rfl, bb⟩
end Go.Proofs.YtfgdenmlfloloaaDoor

namespace Go.Proofs.YtfgdenmlfloloaaDoor
open Go.RowKit
set_option maxRecDepth 100000
/-- what StepHeap asks of the function in the table -/
def ExecF (g : Nat) (o : Cm) (h : Hp) : Prop := ∀ (w0 w1 : World) (b : Nat) (vc vr : Value) (rvs : List Value), BoxSt w0 w1 b vc vr rvs h →
  Calls Tryd.prog g #[cmV o, .pointer (some ⟨b, 0, none⟩)] w1 fun e w' => (∃ v, e = .returned v) ∧ ∃ vc' vr' rvs', BoxSt w0 w' b vc' vr' rvs' (Hps.doH h o h.cs.length)
theorem BoxSt.form {w0 wr : World} {b : Nat} {vc vr : Value} {rvs : List Value} {h : Hp} (S : BoxSt w0 wr b vc vr rvs h) (hl : 0 < h.rt.length) : ∃ A c gr d, vc = .slice A h.cs.length c ∧ vr = .slice (some ⟨gr, 0, none⟩) h.rt.length d ∧ (0 < h.cs.length → ∃ g, A = some ⟨g, 0, none⟩) := by
  obtain ⟨A, c, R, d, e1, e2, _, _, fA, fR⟩ := S.own.form
  obtain ⟨gr, rfl, _, _⟩ := fR hl
  exact ⟨A, c, gr, d, e1, e2, fun h => by obtain ⟨g, e, _⟩ := fA h; exact ⟨g, e⟩⟩
set_option maxHeartbeats 4000000 in
theorem exec_drop {a : Nat} {ob : Int} {oc : Int} {h : Hp} (hv : Hps.validH h = true) (ha : a < 4) : ExecF 133 ⟨5, a, ob, oc⟩ h := by
  intro w0 w1 b vc vr rvs S0
  have hr4 := (Hps.valid_iff.1 hv).2.2.1
  have HF := Lib.hid (show Hps.doH h ⟨5, a, ob, oc⟩ h.cs.length = ⟨h.cs, h.rt.set a (-1)⟩ by simp [Hps.doH])
  have ham : (a : Int) < 4 := by omega
  have HL := Lib.hid hr4
  obtain ⟨A, c, gr, d, rfl, rfl, -⟩ := S0.form (by omega)
  rw [hr4] at S0
  have S := S0.up ((Below.refl w1.heap.size w1).alloc (Nat.le_refl _) (.cells #[.int .i64 5, .int .i64 a, .int .i64 ob, .int .i64 oc] 36))
  have Q := Rw.new w1 36 #[.int .i64 5, .int .i64 a, .int .i64 ob, .int .i64 oc]
  clear S0 hr4 hv
  go_enter Tryd.func133, Tryd.ntmps133
  go_upto_region 1 with fail
  generalize w1.alloc (.cells #[.int .i64 5, .int .i64 a, .int .i64 ob, .int .i64 oc] 36) = w2 at S Q ⊢
  generalize w1.heap.size = q at Q ⊢
  have y1 : w2.cell? ⟨q, 1, none⟩ = some (.int .i64 a) := Q.cell 1
  have y2 : w2.cell? ⟨q, 2, none⟩ = some (.int .i64 ob) := Q.cell 2
  have y3 : w2.cell? ⟨q, 3, none⟩ = some (.int .i64 oc) := Q.cell 3
  have x1 : w2.cell? ⟨b, 1, none⟩ = some (.slice (some ⟨gr, 0, none⟩) 4 d) := S.box.cell 1
  have SS := Lib.hid S
  clear S Q y2 y3
  go_still_tail 7, (by kernel_rfl)
  change wpList _ _ _ _ _ w2.drew
  have S4 := SS.out.drew
  generalize w2.drew = w4 at S4 ⊢
  obtain ⟨xo, hxo, cr⟩ := S4.own.roots.cell_at (j := a) (by omega)
  have fz : w4.frozen? ⟨gr, a, none⟩ = false := S4.own.roots.frozen HL.out a
  have S5 := S4.root (i := a) HL.out (-1)
  clear S4 SS
  go_wp2_with fail
  go_end0
  exact ⟨⟨_, rfl⟩, _, _, _, by rw [HF.out]; exact S5⟩
set_option maxHeartbeats 4000000 in
theorem exec_copy {a : Nat} {ob : Nat} {oc : Int} {h : Hp} (hv : Hps.validH h = true) (ha : a < 4) (hb : ob < 4) : ExecF 132 ⟨4, a, ob, oc⟩ h := by
  intro w0 w1 b vc vr rvs S0
  have hr4 := (Hps.valid_iff.1 hv).2.2.1
  have ham : (a : Int) < 4 := by omega
  have hbm : (ob : Int) < 4 := by omega
  have hx := List.getElem?_eq_getElem (show ob < h.rt.length by omega)
  generalize h.rt[ob]'(by omega) = x at hx
  have HF := Lib.hid (show Hps.doH h ⟨4, a, ob, oc⟩ h.cs.length = ⟨h.cs, h.rt.set a x⟩ by simp [Hps.doH, Hps.rootAt, hx])
  have HL := Lib.hid hr4
  obtain ⟨A, c, gr, d, rfl, rfl, -⟩ := S0.form (by omega)
  rw [hr4] at S0
  have S := S0.up ((Below.refl w1.heap.size w1).alloc (Nat.le_refl _) (.cells #[.int .i64 4, .int .i64 a, .int .i64 ob, .int .i64 oc] 36))
  have Q := Rw.new w1 36 #[.int .i64 4, .int .i64 a, .int .i64 ob, .int .i64 oc]
  clear S0 hr4 hv
  go_enter Tryd.func132, Tryd.ntmps132
  go_upto_region 1 with fail
  generalize w1.alloc (.cells #[.int .i64 4, .int .i64 a, .int .i64 ob, .int .i64 oc] 36) = w2 at S Q ⊢
  generalize w1.heap.size = q at Q ⊢
  have y1 : w2.cell? ⟨q, 1, none⟩ = some (.int .i64 a) := Q.cell 1
  have y2 : w2.cell? ⟨q, 2, none⟩ = some (.int .i64 ob) := Q.cell 2
  have y3 : w2.cell? ⟨q, 3, none⟩ = some (.int .i64 oc) := Q.cell 3
  have x1 : w2.cell? ⟨b, 1, none⟩ = some (.slice (some ⟨gr, 0, none⟩) 4 d) := S.box.cell 1
  obtain ⟨x2, hx2, cx2⟩ := S.own.roots.cell_at (j := ob) (by omega)
  rw [hx] at hx2
  obtain rfl := Option.some.inj hx2
  have SS := Lib.hid S
  clear S Q y3 hx hx2
  go_still_tail 15, (by kernel_rfl)
  change wpList _ _ _ _ _ w2.drew
  have S4 := SS.out.drew
  generalize w2.drew = w4 at S4 ⊢
  obtain ⟨xo, hxo, cr⟩ := S4.own.roots.cell_at (j := a) (by omega)
  have fz : w4.frozen? ⟨gr, a, none⟩ = false := S4.own.roots.frozen HL.out a
  have S5 := S4.root (i := a) HL.out x
  clear S4 SS
  go_wp2_with fail
  go_end0
  exact ⟨⟨_, rfl⟩, _, _, _, by rw [HF.out]; exact S5⟩
set_option maxHeartbeats 4000000 in
theorem exec_get {a : Nat} {ob : Nat} {oc : Nat} {h : Hp} (hv : Hps.validH h = true) (ha : a < 4) (hb : ob < 4) {k : Nat} {cl : Cl} (hk : Hps.rootAt h ob = k) (hcl : h.cs[k]? = some cl) (hoc : oc < cl.r.length) : ExecF 129 ⟨2, a, ob, oc⟩ h := by
  intro w0 w1 b vc vr rvs S0
  have hr4 := (Hps.valid_iff.1 hv).2.2.1
  have ham : (a : Int) < 4 := by omega
  have hbm : (ob : Int) < 4 := by omega
  have hx := List.getElem?_eq_getElem (show ob < h.rt.length by omega)
  generalize h.rt[ob]'(by omega) = x at hx
  rw [Hps.rootAt_nat hx] at hk
  subst hk
  have hy := List.getElem?_eq_getElem hoc
  generalize cl.r[oc] = y at hy
  have hlk := (List.getElem?_eq_some_iff.1 hcl).1
  obtain ⟨n, hn⟩ : ∃ n, h.cs.length = n := ⟨_, rfl⟩
  have hkn : (k : Int) < n := by omega
  have hck : h.cs[(k : Int).toNat]? = some cl := hcl
  have HF := Lib.hid (show Hps.doH h ⟨2, a, ob, oc⟩ h.cs.length = ⟨h.cs, h.rt.set a y⟩ by simp [Hps.doH, Hps.rootAt, hx, Hps.refAt, hcl, hy])
  have HL := Lib.hid hr4
  obtain ⟨A, c, gr, d, rfl, rfl, -⟩ := S0.form (by omega)
  rw [hr4] at S0
  have S := S0.up ((Below.refl w1.heap.size w1).alloc (Nat.le_refl _) (.cells #[.int .i64 2, .int .i64 a, .int .i64 ob, .int .i64 oc] 36))
  have Q := Rw.new w1 36 #[.int .i64 2, .int .i64 a, .int .i64 ob, .int .i64 oc]
  clear S0 hr4 hv
  go_enter Tryd.func129, Tryd.ntmps129
  go_upto_region 1 with fail
  generalize w1.alloc (.cells #[.int .i64 2, .int .i64 a, .int .i64 ob, .int .i64 oc] 36) = w2 at S Q ⊢
  generalize w1.heap.size = q at Q ⊢
  have y1 : w2.cell? ⟨q, 1, none⟩ = some (.int .i64 a) := Q.cell 1
  have y2 : w2.cell? ⟨q, 2, none⟩ = some (.int .i64 ob) := Q.cell 2
  have y3 : w2.cell? ⟨q, 3, none⟩ = some (.int .i64 oc) := Q.cell 3
  rw [hn] at S
  have x1 : w2.cell? ⟨b, 1, none⟩ = some (.slice (some ⟨gr, 0, none⟩) 4 d) := S.box.cell 1
  obtain ⟨x2, hx2, cx2⟩ := S.own.roots.cell_at (j := ob) (by omega)
  rw [hx] at hx2
  obtain rfl := Option.some.inj hx2
  obtain ⟨gc, v, hA, hg1, hg2, hrv, hov, d0, d1, d2, fzc⟩ := S.own.cell_at (A := A) (n := n) (c := c) (by exact hcl)
  subst hA
  have x0 : w2.cell? ⟨b, 0, none⟩ = some (.slice (some ⟨gc, 0, none⟩) n c) := S.box.cell 0
  obtain ⟨A8, c8, rfl, fA8⟩ := hov.form
  obtain ⟨g8, rfl, _, _⟩ := fA8 (by omega)
  obtain ⟨m8, hm8⟩ : ∃ m8, cl.r.length = m8 := ⟨_, rfl⟩
  rw [hm8] at hov d2 hrv hoc
  obtain ⟨y', hy', cy⟩ := hov.cell_at (j := oc) hoc
  rw [hy] at hy'
  obtain rfl := Option.some.inj hy'
  have hom : (oc : Int) < m8 := by omega
  have SS := Lib.hid S
  clear S Q hx hx2 hck hcl hy hy' hov hrv hm8 hg1 hg2 d0 d1 fzc fA8 hoc
  go_still_tail 26, (by kernel_rfl)
  change wpList _ _ _ _ _ w2.drew
  have S4 := SS.out.drew
  generalize w2.drew = w4 at S4 ⊢
  obtain ⟨xo, hxo, cr⟩ := S4.own.roots.cell_at (j := a) (by omega)
  have fz : w4.frozen? ⟨gr, a, none⟩ = false := S4.own.roots.frozen HL.out a
  have S5 := S4.root (i := a) HL.out y
  clear S4 SS
  go_wp2_with fail
  go_end0
  exact ⟨⟨_, rfl⟩, _, _, _, by rw [HF.out]; exact S5⟩
set_option maxHeartbeats 4000000 in
theorem exec_set {a : Nat} {ob : Nat} {oc : Nat} {h : Hp} (hv : Hps.validH h = true) (ha : a < 4) (hb : ob < 4) {k : Nat} {cl : Cl} (hk : Hps.rootAt h a = k) (hcl : h.cs[k]? = some cl) (hoc : oc < cl.r.length) : ExecF 131 ⟨3, a, ob, oc⟩ h := by
  intro w0 w1 b vc vr rvs S0
  have hr4 := (Hps.valid_iff.1 hv).2.2.1
  have ham : (a : Int) < 4 := by omega
  have hbm : (ob : Int) < 4 := by omega
  have hx := List.getElem?_eq_getElem (show a < h.rt.length by omega)
  generalize h.rt[a]'(by omega) = x at hx
  rw [Hps.rootAt_nat hx] at hk
  subst hk
  have hz := List.getElem?_eq_getElem (show ob < h.rt.length by omega)
  generalize h.rt[ob]'(by omega) = z at hz
  have hlk := (List.getElem?_eq_some_iff.1 hcl).1
  obtain ⟨n, hn⟩ : ∃ n, h.cs.length = n := ⟨_, rfl⟩
  have hkn : (k : Int) < n := by omega
  have HF := Lib.hid (show Hps.doH h ⟨3, a, ob, oc⟩ h.cs.length = ⟨h.cs.set k ⟨cl.u, cl.d, cl.r.set oc z⟩, h.rt⟩ by simp [Hps.doH, Hps.rootAt, hx, hz, Hps.setRef, hcl])
  have HL := Lib.hid hr4
  obtain ⟨A, c, gr, d, rfl, rfl, -⟩ := S0.form (by omega)
  rw [hr4] at S0
  have S := S0.up ((Below.refl w1.heap.size w1).alloc (Nat.le_refl _) (.cells #[.int .i64 3, .int .i64 a, .int .i64 ob, .int .i64 oc] 36))
  have Q := Rw.new w1 36 #[.int .i64 3, .int .i64 a, .int .i64 ob, .int .i64 oc]
  clear S0 hr4 hv
  go_enter Tryd.func131, Tryd.ntmps131
  go_upto_region 1 with fail
  generalize w1.alloc (.cells #[.int .i64 3, .int .i64 a, .int .i64 ob, .int .i64 oc] 36) = w2 at S Q ⊢
  generalize w1.heap.size = q at Q ⊢
  have y1 : w2.cell? ⟨q, 1, none⟩ = some (.int .i64 a) := Q.cell 1
  have y2 : w2.cell? ⟨q, 2, none⟩ = some (.int .i64 ob) := Q.cell 2
  have y3 : w2.cell? ⟨q, 3, none⟩ = some (.int .i64 oc) := Q.cell 3
  rw [hn] at S
  have x1 : w2.cell? ⟨b, 1, none⟩ = some (.slice (some ⟨gr, 0, none⟩) 4 d) := S.box.cell 1
  obtain ⟨x2, hx2, cx2⟩ := S.own.roots.cell_at (j := a) (by omega)
  rw [hx] at hx2
  obtain rfl := Option.some.inj hx2
  obtain ⟨x3, hx3, cx3⟩ := S.own.roots.cell_at (j := ob) (by omega)
  rw [hz] at hx3
  obtain rfl := Option.some.inj hx3
  obtain ⟨gc, v, hA, hg1, hg2, hrv, hov, d0, d1, d2, fzc⟩ := S.own.cell_at (A := A) (n := n) (c := c) (by exact hcl)
  subst hA
  have x0 : w2.cell? ⟨b, 0, none⟩ = some (.slice (some ⟨gc, 0, none⟩) n c) := S.box.cell 0
  obtain ⟨A8, c8, rfl, fA8⟩ := hov.form
  obtain ⟨g8, rfl, _, _⟩ := fA8 (by omega)
  obtain ⟨m8, hm8⟩ : ∃ m8, cl.r.length = m8 := ⟨_, rfl⟩
  rw [hm8] at hov d2 hrv hoc
  have hom : (oc : Int) < m8 := by omega
  obtain ⟨yo, hyo, cyo⟩ := hov.cell_at (j := oc) hoc
  have fzo : w2.frozen? ⟨g8, oc, none⟩ = false := hov.frozen hm8 oc
  have SS := Lib.hid S
  have HCL := Lib.hid hcl
  have HRV := Lib.hid hrv
  have HM8 := Lib.hid hm8
  clear S Q hx hx2 hx3 hz hcl hyo hov hrv hm8 hg1 hg2 d0 d1 fzc fA8 hoc
  go_still_tail 26, (by kernel_rfl)
  change wpList _ _ _ _ _ w2.drew
  have S4 := SS.out.drew
  have FZ := Lib.hid (show w2.drew.frozen? ⟨g8, oc, none⟩ = false from fzo)
  have CR := Lib.hid (show w2.drew.cell? ⟨g8, oc, none⟩ = some (.int .i64 yo) from cyo)
  generalize w2.drew = w4 at S4 FZ CR ⊢
  have fz : w4.frozen? ⟨g8, oc, none⟩ = false := FZ.out
  have cr : w4.cell? ⟨g8, oc, none⟩ = some (.int .i64 yo) := CR.out
  have S5 := S4.ref1 (i := oc) HCL.out HRV.out HM8.out z
  clear S4 SS
  go_wp2_with fail
  go_end0
  exact ⟨⟨_, rfl⟩, _, _, _, by rw [HF.out]; exact S5⟩
set_option maxHeartbeats 4000000 in
theorem exec_data {a : Nat} {ob : Int} {oc : Int} {h : Hp} (hv : Hps.validH h = true) (ha : a < 4) {k : Nat} {cl : Cl} (hk : Hps.rootAt h a = k) (hcl : h.cs[k]? = some cl) : ExecF 135 ⟨6, a, ob, oc⟩ h := by
  intro w0 w1 b vc vr rvs S0
  have hr4 := (Hps.valid_iff.1 hv).2.2.1
  have ham : (a : Int) < 4 := by omega
  have hx := List.getElem?_eq_getElem (show a < h.rt.length by omega)
  generalize h.rt[a]'(by omega) = x at hx
  rw [Hps.rootAt_nat hx] at hk
  subst hk
  have hlk := (List.getElem?_eq_some_iff.1 hcl).1
  obtain ⟨n, hn⟩ : ∃ n, h.cs.length = n := ⟨_, rfl⟩
  have hkn : (k : Int) < n := by omega
  have HF := Lib.hid (show Hps.doH h ⟨6, a, ob, oc⟩ h.cs.length = ⟨h.cs.set k ⟨cl.u, ob, cl.r⟩, h.rt⟩ by simp [Hps.doH, Hps.rootAt, hx, Hps.setDat, hcl])
  have HL := Lib.hid hr4
  obtain ⟨A, c, gr, d, rfl, rfl, -⟩ := S0.form (by omega)
  rw [hr4] at S0
  have S := S0.up ((Below.refl w1.heap.size w1).alloc (Nat.le_refl _) (.cells #[.int .i64 6, .int .i64 a, .int .i64 ob, .int .i64 oc] 36))
  have Q := Rw.new w1 36 #[.int .i64 6, .int .i64 a, .int .i64 ob, .int .i64 oc]
  clear S0 hr4 hv
  go_enter Tryd.func135, Tryd.ntmps135
  go_upto_region 1 with fail
  generalize w1.alloc (.cells #[.int .i64 6, .int .i64 a, .int .i64 ob, .int .i64 oc] 36) = w2 at S Q ⊢
  generalize w1.heap.size = q at Q ⊢
  have y1 : w2.cell? ⟨q, 1, none⟩ = some (.int .i64 a) := Q.cell 1
  have y2 : w2.cell? ⟨q, 2, none⟩ = some (.int .i64 ob) := Q.cell 2
  have y3 : w2.cell? ⟨q, 3, none⟩ = some (.int .i64 oc) := Q.cell 3
  rw [hn] at S
  have x1 : w2.cell? ⟨b, 1, none⟩ = some (.slice (some ⟨gr, 0, none⟩) 4 d) := S.box.cell 1
  obtain ⟨x2, hx2, cx2⟩ := S.own.roots.cell_at (j := a) (by omega)
  rw [hx] at hx2
  obtain rfl := Option.some.inj hx2
  obtain ⟨gc, v, hA, hg1, hg2, hrv, hov, d0, d1, d2, fzc⟩ := S.own.cell_at (A := A) (n := n) (c := c) (by exact hcl)
  subst hA
  have x0 : w2.cell? ⟨b, 0, none⟩ = some (.slice (some ⟨gc, 0, none⟩) n c) := S.box.cell 0
  have fzo := fzc (k * 3 + 1)
  have SS := Lib.hid S
  have HCL := Lib.hid hcl
  have HN := Lib.hid hn
  clear S Q hx hx2 hcl hov hrv hg1 hg2 d0 d2 fzc hn
  go_still_tail 16, (by kernel_rfl)
  change wpList _ _ _ _ _ w2.drew
  have S4 := SS.out.drew
  have FZ := Lib.hid (show w2.drew.frozen? ⟨gc, k * 3 + 1, none⟩ = false from fzo)
  have CR := Lib.hid (show w2.drew.cell? ⟨gc, k * 3 + 1, none⟩ = some (.int .i64 cl.d) from d1)
  generalize w2.drew = w4 at S4 FZ CR ⊢
  have fz : w4.frozen? ⟨gc, k * 3 + 1, none⟩ = false := FZ.out
  have cr : w4.cell? ⟨gc, k * 3 + 1, none⟩ = some (.int .i64 cl.d) := CR.out
  have S5 := S4.data HN.out HCL.out ob
  clear S4 SS
  go_wp2_with fail
  go_end0
  exact ⟨⟨_, rfl⟩, _, _, _, by rw [HF.out]; exact S5⟩
end Go.Proofs.YtfgdenmlfloloaaDoor

namespace Go.Proofs.YtfgdenmlfloloaaDoor
open Go.RowKit
set_option maxRecDepth 100000
theorem info_intsize : (Tryd.prog.info? 3).map (·.size) = some 1 := by kernel_rfl
/-- k times -1, then 0 up to N -/
def repN (N k : Nat) : List Value := List.replicate k (.int .i64 (-1)) ++ List.replicate (N - k) (.int .i64 0)
def RowN (w : World) (g N k : Nat) : Prop := w.heap[g]? = some (.cells (repN N k).toArray 3 (0, 0))
theorem RowN.cell {w : World} {g N k j : Nat} (h : RowN w g N k) (hj : j < k) : w.cell? ⟨g, j, none⟩ = some (.int .i64 (-1)) := by
  have : (repN N k)[j]? = some (.int .i64 (-1)) := by
    unfold repN
    rw [List.getElem?_append_left (by simpa using hj)]
    simp [hj]
  have e : w.cell? ⟨g, j, none⟩ = (repN N k).toArray[j]? := Rw.cell (cs := (repN N k).toArray) h j
  rw [e]
  simpa using this
theorem RowN.put {w : World} {g N k : Nat} (h : RowN w g N k) (j : Nat) : RowN (w.setRow g (repN N j).toArray) g N j := setRow_heap w g _ _ _ _ h
theorem mulN64_0 (w : World) : Calls Tryd.prog 140 #[.int .u64 1, .int .u64 0] w fun e w' => e = .returned (.tuple #[.int .u64 0, .int .u64 0]) ∧ w = w' := by
  go_enter Tryd.func140, Tryd.ntmps140
  go_wp2_with fail
  go_ret2
  exact ⟨rfl, rfl⟩
theorem mulN_0 (w : World) : Calls Tryd.prog 124 #[.int .u64 1, .int .u64 0] w fun e w' => e = .returned (.tuple #[.int .u64 0, .int .u64 0]) ∧ w = w' := by
  go_enter Tryd.func124, Tryd.ntmps124
  go_wp2_with fail
  refine (mulN64_0 _).mono ?_
  rintro e w1 ⟨rfl, rfl⟩
  go_wp2_with fail
  go_ret2
  exact ⟨rfl, rfl⟩
theorem copyN_first_0 {w : World} {g g0 : Nat} (hr : RowN w g0 0 0) (_hc : w.cell? ⟨g, 0, none⟩ = some (.int .i64 (-1))) (ty : TypeId) :
    (Builtin.copy_ #[24, 24] ty #[.slice (some ⟨g0, 0, none⟩) 0 0, .slice (some ⟨g, 0, none⟩) 1 1]).run Tryd.prog w = .ok (.int .i64 0) (w.setRow g0 (repN 0 0).toArray) :=
  run_copy_row (P := Tryd.prog) w 24 24 ty 3 g0 0 0 0 ⟨g, 0, none⟩ 1 1 (repN 0 0).toArray 3 [] Tryd.underlying24 info_intsize hr rfl (by
    intro j v hj
    simp at hj) (by decide) (by intro v hv; simp at hv)
set_option maxHeartbeats 1000000 in
theorem repeat_0 (g : Nat) (w : World) (hg : g < w.heap.size) (hc : w.cell? ⟨g, 0, none⟩ = some (.int .i64 (-1))) :
    Calls Tryd.prog 100 #[.slice (some ⟨g, 0, none⟩) 1 1, .int .i64 0] w (GaveI w (List.replicate 0 (-1))) := by
  have hmk := makeI w 0 (by omega)
  have b2 : Below w.heap.size w (w.alloc (.cells (Array.replicate 0 (.int .i64 0)) 3)) := (Below.refl _ _).alloc (Nat.le_refl _) _
  have k2 : RowN (w.alloc (.cells (Array.replicate 0 (.int .i64 0)) 3)) w.heap.size 0 0 := Rw.new w 3 (Array.replicate 0 (.int .i64 0))
  have hc2 := (b2.cell (p := ⟨g, 0, none⟩) hg).trans hc
  obtain ⟨w2, hw2⟩ : ∃ w2, w.alloc (.cells (Array.replicate 0 (.int .i64 0)) 3) = w2 := ⟨_, rfl⟩
  rw [hw2] at hmk b2 k2 hc2
  obtain ⟨G, hG⟩ : ∃ G, w.heap.size = G := ⟨_, rfl⟩
  rw [hG] at hmk b2 k2
  simp at hmk
  have hcp := copyN_first_0 k2 hc2
  have k3 := k2.put 0
  have b3 : Below G w (w2.setRow G (repN 0 0).toArray) := below_setRow b2 (Nat.le_refl _) _
  obtain ⟨w3, hw3⟩ : ∃ w3, w2.setRow G (repN 0 0).toArray = w3 := ⟨_, rfl⟩
  rw [hw3] at hcp k3 b3
  clear hw2 hw3
  go_enter Tryd.func100, Tryd.ntmps100
  go_wp2_with fail
  refine (mulN_0 _).mono ?_
  rintro e w1 ⟨rfl, rfl⟩
  go_wp2_with fail
  clear k2 hc2 hmk hcp b2
  go_loopw [8] (fun v wr => ∃ k : Nat, (k = 0) ∧ v = .int .i64 k ∧ RowN wr G 0 k ∧ Below G w wr) (fun v _ => 0 - (intOf v).toNat)
  case atStart => exact ⟨0, rfl, rfl, k3, b3⟩
  case round =>
    clear k3 b3
    obtain ⟨k, hk, rfl, hr, bb⟩ := hrel
    subst hk
    · go_wp2_with fail
      go_ret
      refine ⟨_, rfl, ⟨by simp, .inr ⟨G, 0, (repN 0 0).toArray, by simp, by omega, hr, by simp, by unfold maxLen; omega, by decide, rfl⟩⟩, by rw [hG]; exact bb⟩
theorem mulN64_1 (w : World) : Calls Tryd.prog 140 #[.int .u64 1, .int .u64 1] w fun e w' => e = .returned (.tuple #[.int .u64 0, .int .u64 1]) ∧ w = w' := by
  go_enter Tryd.func140, Tryd.ntmps140
  go_wp2_with fail
  go_ret2
  exact ⟨rfl, rfl⟩
theorem mulN_1 (w : World) : Calls Tryd.prog 124 #[.int .u64 1, .int .u64 1] w fun e w' => e = .returned (.tuple #[.int .u64 0, .int .u64 1]) ∧ w = w' := by
  go_enter Tryd.func124, Tryd.ntmps124
  go_wp2_with fail
  refine (mulN64_1 _).mono ?_
  rintro e w1 ⟨rfl, rfl⟩
  go_wp2_with fail
  go_ret2
  exact ⟨rfl, rfl⟩
theorem copyN_first_1 {w : World} {g g0 : Nat} (hr : RowN w g0 1 0) (hc : w.cell? ⟨g, 0, none⟩ = some (.int .i64 (-1))) (ty : TypeId) :
    (Builtin.copy_ #[24, 24] ty #[.slice (some ⟨g0, 0, none⟩) 1 1, .slice (some ⟨g, 0, none⟩) 1 1]).run Tryd.prog w = .ok (.int .i64 1) (w.setRow g0 (repN 1 1).toArray) :=
  run_copy_row (P := Tryd.prog) w 24 24 ty 3 g0 0 1 1 ⟨g, 0, none⟩ 1 1 (repN 1 0).toArray 3 [.int .i64 (-1)] Tryd.underlying24 info_intsize hr rfl (by
    intro j v hj
    match j, hj with
    | 0, hj => simp at hj; subst hj; exact hc) (by decide) (by intro v hv; simp at hv; subst hv; rfl)
set_option maxHeartbeats 1000000 in
theorem repeat_1 (g : Nat) (w : World) (hg : g < w.heap.size) (hc : w.cell? ⟨g, 0, none⟩ = some (.int .i64 (-1))) :
    Calls Tryd.prog 100 #[.slice (some ⟨g, 0, none⟩) 1 1, .int .i64 1] w (GaveI w (List.replicate 1 (-1))) := by
  have hmk := makeI w 1 (by omega)
  have b2 : Below w.heap.size w (w.alloc (.cells (Array.replicate 1 (.int .i64 0)) 3)) := (Below.refl _ _).alloc (Nat.le_refl _) _
  have k2 : RowN (w.alloc (.cells (Array.replicate 1 (.int .i64 0)) 3)) w.heap.size 1 0 := Rw.new w 3 (Array.replicate 1 (.int .i64 0))
  have hc2 := (b2.cell (p := ⟨g, 0, none⟩) hg).trans hc
  obtain ⟨w2, hw2⟩ : ∃ w2, w.alloc (.cells (Array.replicate 1 (.int .i64 0)) 3) = w2 := ⟨_, rfl⟩
  rw [hw2] at hmk b2 k2 hc2
  obtain ⟨G, hG⟩ : ∃ G, w.heap.size = G := ⟨_, rfl⟩
  rw [hG] at hmk b2 k2
  simp at hmk
  have hcp := copyN_first_1 k2 hc2
  have k3 := k2.put 1
  have b3 : Below G w (w2.setRow G (repN 1 1).toArray) := below_setRow b2 (Nat.le_refl _) _
  obtain ⟨w3, hw3⟩ : ∃ w3, w2.setRow G (repN 1 1).toArray = w3 := ⟨_, rfl⟩
  rw [hw3] at hcp k3 b3
  clear hw2 hw3
  go_enter Tryd.func100, Tryd.ntmps100
  go_wp2_with fail
  refine (mulN_1 _).mono ?_
  rintro e w1 ⟨rfl, rfl⟩
  go_wp2_with fail
  clear k2 hc2 hmk hcp b2
  go_loopw [8] (fun v wr => ∃ k : Nat, (k = 1) ∧ v = .int .i64 k ∧ RowN wr G 1 k ∧ Below G w wr) (fun v _ => 1 - (intOf v).toNat)
  case atStart => exact ⟨1, rfl, rfl, k3, b3⟩
  case round =>
    clear k3 b3
    obtain ⟨k, hk, rfl, hr, bb⟩ := hrel
    subst hk
    · go_wp2_with fail
      go_ret
      refine ⟨_, rfl, ⟨by simp, .inr ⟨G, 1, (repN 1 1).toArray, by simp, by omega, hr, by simp, by unfold maxLen; omega, by decide, rfl⟩⟩, by rw [hG]; exact bb⟩
theorem mulN64_2 (w : World) : Calls Tryd.prog 140 #[.int .u64 1, .int .u64 2] w fun e w' => e = .returned (.tuple #[.int .u64 0, .int .u64 2]) ∧ w = w' := by
  go_enter Tryd.func140, Tryd.ntmps140
  go_wp2_with fail
  go_ret2
  exact ⟨rfl, rfl⟩
theorem mulN_2 (w : World) : Calls Tryd.prog 124 #[.int .u64 1, .int .u64 2] w fun e w' => e = .returned (.tuple #[.int .u64 0, .int .u64 2]) ∧ w = w' := by
  go_enter Tryd.func124, Tryd.ntmps124
  go_wp2_with fail
  refine (mulN64_2 _).mono ?_
  rintro e w1 ⟨rfl, rfl⟩
  go_wp2_with fail
  go_ret2
  exact ⟨rfl, rfl⟩
theorem copyN_first_2 {w : World} {g g0 : Nat} (hr : RowN w g0 2 0) (hc : w.cell? ⟨g, 0, none⟩ = some (.int .i64 (-1))) (ty : TypeId) :
    (Builtin.copy_ #[24, 24] ty #[.slice (some ⟨g0, 0, none⟩) 2 2, .slice (some ⟨g, 0, none⟩) 1 1]).run Tryd.prog w = .ok (.int .i64 1) (w.setRow g0 (repN 2 1).toArray) :=
  run_copy_row (P := Tryd.prog) w 24 24 ty 3 g0 0 2 2 ⟨g, 0, none⟩ 1 1 (repN 2 0).toArray 3 [.int .i64 (-1)] Tryd.underlying24 info_intsize hr rfl (by
    intro j v hj
    match j, hj with
    | 0, hj => simp at hj; subst hj; exact hc) (by decide) (by intro v hv; simp at hv; subst hv; rfl)
theorem copyN_2_1 {w : World} {g : Nat} (h : RowN w g 2 1) (ty : TypeId) :
    (Builtin.copy_ #[24, 24] ty #[.slice (some ⟨g, 1, none⟩) 1 1, .slice (some ⟨g, 0, none⟩) 1 2]).run Tryd.prog w = .ok (.int .i64 1) (w.setRow g (repN 2 2).toArray) :=
  run_copy_row (P := Tryd.prog) w 24 24 ty 3 g 1 1 1 ⟨g, 0, none⟩ 1 2 (repN 2 1).toArray 3 [.int .i64 (-1)] Tryd.underlying24 info_intsize h rfl (by
    intro j v hj
    match j, hj with
    | 0, hj => simp at hj; subst hj; exact h.cell (j := 0) (by omega)) (by decide) (by intro v hv; simp at hv; subst hv; rfl)
set_option maxHeartbeats 1000000 in
theorem repeat_2 (g : Nat) (w : World) (hg : g < w.heap.size) (hc : w.cell? ⟨g, 0, none⟩ = some (.int .i64 (-1))) :
    Calls Tryd.prog 100 #[.slice (some ⟨g, 0, none⟩) 1 1, .int .i64 2] w (GaveI w (List.replicate 2 (-1))) := by
  have hmk := makeI w 2 (by omega)
  have b2 : Below w.heap.size w (w.alloc (.cells (Array.replicate 2 (.int .i64 0)) 3)) := (Below.refl _ _).alloc (Nat.le_refl _) _
  have k2 : RowN (w.alloc (.cells (Array.replicate 2 (.int .i64 0)) 3)) w.heap.size 2 0 := Rw.new w 3 (Array.replicate 2 (.int .i64 0))
  have hc2 := (b2.cell (p := ⟨g, 0, none⟩) hg).trans hc
  obtain ⟨w2, hw2⟩ : ∃ w2, w.alloc (.cells (Array.replicate 2 (.int .i64 0)) 3) = w2 := ⟨_, rfl⟩
  rw [hw2] at hmk b2 k2 hc2
  obtain ⟨G, hG⟩ : ∃ G, w.heap.size = G := ⟨_, rfl⟩
  rw [hG] at hmk b2 k2
  simp at hmk
  have hcp := copyN_first_2 k2 hc2
  have k3 := k2.put 1
  have b3 : Below G w (w2.setRow G (repN 2 1).toArray) := below_setRow b2 (Nat.le_refl _) _
  obtain ⟨w3, hw3⟩ : ∃ w3, w2.setRow G (repN 2 1).toArray = w3 := ⟨_, rfl⟩
  rw [hw3] at hcp k3 b3
  clear hw2 hw3
  go_enter Tryd.func100, Tryd.ntmps100
  go_wp2_with fail
  refine (mulN_2 _).mono ?_
  rintro e w1 ⟨rfl, rfl⟩
  go_wp2_with fail
  clear k2 hc2 hmk hcp b2
  go_loopw [8] (fun v wr => ∃ k : Nat, (k = 1 ∨ k = 2) ∧ v = .int .i64 k ∧ RowN wr G 2 k ∧ Below G w wr) (fun v _ => 2 - (intOf v).toNat)
  case atStart => exact ⟨1, .inl rfl, rfl, k3, b3⟩
  case round =>
    clear k3 b3
    obtain ⟨k, hk, rfl, hr, bb⟩ := hrel
    rcases hk with rfl | rfl
    · have hcp := copyN_2_1 (w := wr.drew) hr
      have kn := RowN.put (w := wr.drew) hr 2
      have bn : Below G w (wr.drew.setRow G (repN 2 2).toArray) := below_setRow bb.drew (Nat.le_refl _) _
      obtain ⟨w3, hw3⟩ : ∃ w3, wr.drew.setRow G (repN 2 2).toArray = w3 := ⟨_, rfl⟩
      rw [hw3] at hcp kn bn
      clear hw3
      go_wp2_with fail
      go_region
      go_wp2
      go_roundw
      case rel => exact ⟨2, .inr rfl, rfl, kn, bn⟩
      case measure => simp [intOf]
    · go_wp2_with fail
      go_ret
      refine ⟨_, rfl, ⟨by simp, .inr ⟨G, 2, (repN 2 2).toArray, by simp, by omega, hr, by simp, by unfold maxLen; omega, by decide, rfl⟩⟩, by rw [hG]; exact bb⟩
theorem mulN64_3 (w : World) : Calls Tryd.prog 140 #[.int .u64 1, .int .u64 3] w fun e w' => e = .returned (.tuple #[.int .u64 0, .int .u64 3]) ∧ w = w' := by
  go_enter Tryd.func140, Tryd.ntmps140
  go_wp2_with fail
  go_ret2
  exact ⟨rfl, rfl⟩
theorem mulN_3 (w : World) : Calls Tryd.prog 124 #[.int .u64 1, .int .u64 3] w fun e w' => e = .returned (.tuple #[.int .u64 0, .int .u64 3]) ∧ w = w' := by
  go_enter Tryd.func124, Tryd.ntmps124
  go_wp2_with fail
  refine (mulN64_3 _).mono ?_
  rintro e w1 ⟨rfl, rfl⟩
  go_wp2_with fail
  go_ret2
  exact ⟨rfl, rfl⟩
theorem copyN_first_3 {w : World} {g g0 : Nat} (hr : RowN w g0 3 0) (hc : w.cell? ⟨g, 0, none⟩ = some (.int .i64 (-1))) (ty : TypeId) :
    (Builtin.copy_ #[24, 24] ty #[.slice (some ⟨g0, 0, none⟩) 3 3, .slice (some ⟨g, 0, none⟩) 1 1]).run Tryd.prog w = .ok (.int .i64 1) (w.setRow g0 (repN 3 1).toArray) :=
  run_copy_row (P := Tryd.prog) w 24 24 ty 3 g0 0 3 3 ⟨g, 0, none⟩ 1 1 (repN 3 0).toArray 3 [.int .i64 (-1)] Tryd.underlying24 info_intsize hr rfl (by
    intro j v hj
    match j, hj with
    | 0, hj => simp at hj; subst hj; exact hc) (by decide) (by intro v hv; simp at hv; subst hv; rfl)
theorem copyN_3_1 {w : World} {g : Nat} (h : RowN w g 3 1) (ty : TypeId) :
    (Builtin.copy_ #[24, 24] ty #[.slice (some ⟨g, 1, none⟩) 2 2, .slice (some ⟨g, 0, none⟩) 1 3]).run Tryd.prog w = .ok (.int .i64 1) (w.setRow g (repN 3 2).toArray) :=
  run_copy_row (P := Tryd.prog) w 24 24 ty 3 g 1 2 2 ⟨g, 0, none⟩ 1 3 (repN 3 1).toArray 3 [.int .i64 (-1)] Tryd.underlying24 info_intsize h rfl (by
    intro j v hj
    match j, hj with
    | 0, hj => simp at hj; subst hj; exact h.cell (j := 0) (by omega)) (by decide) (by intro v hv; simp at hv; subst hv; rfl)
theorem copyN_3_2 {w : World} {g : Nat} (h : RowN w g 3 2) (ty : TypeId) :
    (Builtin.copy_ #[24, 24] ty #[.slice (some ⟨g, 2, none⟩) 1 1, .slice (some ⟨g, 0, none⟩) 2 3]).run Tryd.prog w = .ok (.int .i64 1) (w.setRow g (repN 3 3).toArray) :=
  run_copy_row (P := Tryd.prog) w 24 24 ty 3 g 2 1 1 ⟨g, 0, none⟩ 2 3 (repN 3 2).toArray 3 [.int .i64 (-1)] Tryd.underlying24 info_intsize h rfl (by
    intro j v hj
    match j, hj with
    | 0, hj => simp at hj; subst hj; exact h.cell (j := 0) (by omega)) (by decide) (by intro v hv; simp at hv; subst hv; rfl)
set_option maxHeartbeats 1000000 in
theorem repeat_3 (g : Nat) (w : World) (hg : g < w.heap.size) (hc : w.cell? ⟨g, 0, none⟩ = some (.int .i64 (-1))) :
    Calls Tryd.prog 100 #[.slice (some ⟨g, 0, none⟩) 1 1, .int .i64 3] w (GaveI w (List.replicate 3 (-1))) := by
  have hmk := makeI w 3 (by omega)
  have b2 : Below w.heap.size w (w.alloc (.cells (Array.replicate 3 (.int .i64 0)) 3)) := (Below.refl _ _).alloc (Nat.le_refl _) _
  have k2 : RowN (w.alloc (.cells (Array.replicate 3 (.int .i64 0)) 3)) w.heap.size 3 0 := Rw.new w 3 (Array.replicate 3 (.int .i64 0))
  have hc2 := (b2.cell (p := ⟨g, 0, none⟩) hg).trans hc
  obtain ⟨w2, hw2⟩ : ∃ w2, w.alloc (.cells (Array.replicate 3 (.int .i64 0)) 3) = w2 := ⟨_, rfl⟩
  rw [hw2] at hmk b2 k2 hc2
  obtain ⟨G, hG⟩ : ∃ G, w.heap.size = G := ⟨_, rfl⟩
  rw [hG] at hmk b2 k2
  simp at hmk
  have hcp := copyN_first_3 k2 hc2
  have k3 := k2.put 1
  have b3 : Below G w (w2.setRow G (repN 3 1).toArray) := below_setRow b2 (Nat.le_refl _) _
  obtain ⟨w3, hw3⟩ : ∃ w3, w2.setRow G (repN 3 1).toArray = w3 := ⟨_, rfl⟩
  rw [hw3] at hcp k3 b3
  clear hw2 hw3
  go_enter Tryd.func100, Tryd.ntmps100
  go_wp2_with fail
  refine (mulN_3 _).mono ?_
  rintro e w1 ⟨rfl, rfl⟩
  go_wp2_with fail
  clear k2 hc2 hmk hcp b2
  go_loopw [8] (fun v wr => ∃ k : Nat, (k = 1 ∨ k = 2 ∨ k = 3) ∧ v = .int .i64 k ∧ RowN wr G 3 k ∧ Below G w wr) (fun v _ => 3 - (intOf v).toNat)
  case atStart => exact ⟨1, .inl rfl, rfl, k3, b3⟩
  case round =>
    clear k3 b3
    obtain ⟨k, hk, rfl, hr, bb⟩ := hrel
    rcases hk with rfl | rfl | rfl
    · have hcp := copyN_3_1 (w := wr.drew) hr
      have kn := RowN.put (w := wr.drew) hr 2
      have bn : Below G w (wr.drew.setRow G (repN 3 2).toArray) := below_setRow bb.drew (Nat.le_refl _) _
      obtain ⟨w3, hw3⟩ : ∃ w3, wr.drew.setRow G (repN 3 2).toArray = w3 := ⟨_, rfl⟩
      rw [hw3] at hcp kn bn
      clear hw3
      go_wp2_with fail
      go_region
      go_wp2
      go_roundw
      case rel => exact ⟨2, .inr (.inl rfl), rfl, kn, bn⟩
      case measure => simp [intOf]
    · have hcp := copyN_3_2 (w := wr.drew) hr
      have kn := RowN.put (w := wr.drew) hr 3
      have bn : Below G w (wr.drew.setRow G (repN 3 3).toArray) := below_setRow bb.drew (Nat.le_refl _) _
      obtain ⟨w3, hw3⟩ : ∃ w3, wr.drew.setRow G (repN 3 3).toArray = w3 := ⟨_, rfl⟩
      rw [hw3] at hcp kn bn
      clear hw3
      go_wp2_with fail
      go_region
      go_wp2
      go_roundw
      case rel => exact ⟨3, .inr (.inr rfl), rfl, kn, bn⟩
      case measure => simp [intOf]
    · go_wp2_with fail
      go_ret
      refine ⟨_, rfl, ⟨by simp, .inr ⟨G, 3, (repN 3 3).toArray, by simp, by omega, hr, by simp, by unfold maxLen; omega, by decide, rfl⟩⟩, by rw [hG]; exact bb⟩
theorem repeat_ones (n : Nat) (hn : n ≤ 3) (g : Nat) (w : World) (hg : g < w.heap.size) (hc : w.cell? ⟨g, 0, none⟩ = some (.int .i64 (-1))) :
    Calls Tryd.prog 100 #[.slice (some ⟨g, 0, none⟩) 1 1, .int .i64 n] w (GaveI w (List.replicate n (-1))) := by
  obtain rfl | rfl | rfl | rfl : n = 0 ∨ n = 1 ∨ n = 2 ∨ n = 3 := by omega
  · exact repeat_0 g w hg hc
  · exact repeat_1 g w hg hc
  · exact repeat_2 g w hg hc
  · exact repeat_3 g w hg hc
end Go.Proofs.YtfgdenmlfloloaaDoor

