/- What l20Counted draws: a heap with counts that later calls can read. No conditions. -/
import Derived.Test.YtijgfpcpkmpdpaaCf
import Derived.Test.YtijgfpcpkmpdpaaKn
import Derived.BigRegion
namespace Go.Proofs.Ytijgfpcpkmpdpaa
open Go.RowKit
set_option maxRecDepth 100000

theorem row_sameX {w w' : World} {base lo n : Nat} {e : TypeId} {s : Nat} {v : Value} {xs : List Value} {bad : Nat → Prop} (h : w.ownsRow base e s v n xs) (hl : lo ≤ base) (hv : ∀ k, v.ownBlock = some k → ¬ bad k) (hb : ∀ j, lo ≤ j → j < w.heap.size → ¬ bad j → w'.heap[j]? = w.heap[j]?) : w'.ownsRow base e s v n xs := by
  refine ⟨h.1, ?_⟩
  rcases h.2 with h0 | ⟨g, cap, cur, e, hb', hh, hr⟩
  · exact .inl h0
  · exact .inr ⟨g, cap, cur, e, hb', (hb g (by omega) (Array.getElem?_eq_some_iff.1 hh).1 (hv g (by rw [e]; rfl))).trans hh, hr⟩
/-- a heap whose blocks from lo on, but bad ones, may be read in every later world that has left them alone -/
def HFX (w : World) (lo : Nat) (bad : Nat → Prop) (A : Option Addr) (n : Nat) (R : Option Addr) (m : Nat) (h : Hp) : Prop :=
  ∀ w', w.heap.size ≤ w'.heap.size → (∀ j, lo ≤ j → j < w.heap.size → ¬ bad j → w'.heap[j]? = w.heap[j]?) → HS w' w'.heap.size A n R m h
theorem OwnHx.sameX {w w' : World} {base lo : Nat} {vc vr : Value} {rvs : List Value} {h : Hp} {bad : Nat → Prop} (o : OwnHx w base vc vr rvs h) (hl : lo ≤ base) (hv : ∀ v ∈ vc :: vr :: rvs, ∀ k, v.ownBlock = some k → ¬ bad k) (hb : ∀ j, lo ≤ j → j < w.heap.size → ¬ bad j → w'.heap[j]? = w.heap[j]?) : OwnHx w' base vc vr rvs h :=
  ⟨o.len, row_sameX o.row hl (hv vc (by simp)) hb, fun k c v hc hk => row_sameX (o.refs k c v hc hk) hl (hv v (by simp [List.mem_of_getElem? hk])) hb, row_sameX o.roots hl (hv vr (by simp)) hb, o.sep⟩
theorem OwnHx.hfx {w : World} {base lo n c m d : Nat} {A R : Option Addr} {rvs : List Value} {h : Hp} {bad : Nat → Prop} (o : OwnHx w base (.slice A n c) (.slice R m d) rvs h) (hl : lo ≤ base) (hv : ∀ v ∈ (Value.slice A n c) :: (.slice R m d) :: rvs, ∀ k, v.ownBlock = some k → ¬ bad k) : HFX w lo bad A n R m h := fun _ _ hb => (o.sameX hl hv hb).reads
theorem HF.x {w w1 : World} {lo n m : Nat} {A R : Option Addr} {h : Hp} {bad : Nat → Prop} (H : HF w lo A n R m h) (hs : w.heap.size ≤ w1.heap.size) (hb : ∀ j, lo ≤ j → j < w.heap.size → w1.heap[j]? = w.heap[j]?) (hg : ∀ j, bad j → w.heap.size ≤ j) : HFX w1 lo bad A n R m h := fun w' h1 h2 =>
  H w' (Nat.le_trans hs h1) fun j hj hk => (h2 j hj (by omega) (fun e => by have := hg j e; omega)).trans (hb j hj hk)
theorem HFX.step {w w1 : World} {lo n m : Nat} {A R : Option Addr} {h : Hp} {bad : Nat → Prop} (H : HFX w lo bad A n R m h) (hs : w.heap.size ≤ w1.heap.size) (hb : ∀ j, lo ≤ j → j < w.heap.size → ¬ bad j → w1.heap[j]? = w.heap[j]?) : HFX w1 lo bad A n R m h := fun w' h1 h2 =>
  H w' (Nat.le_trans hs h1) fun j hj hk hnb => (h2 j hj (by omega) hnb).trans (hb j hj hk hnb)
theorem HFX.reads {w : World} {lo n m : Nat} {A R : Option Addr} {h : Hp} {bad : Nat → Prop} (H : HFX w lo bad A n R m h) : HS w w.heap.size A n R m h := H w (Nat.le_refl _) fun _ _ _ _ => rfl

/-- while a heap with counts is drawn: the heap, the counts, the box b, the reader in gr -/
structure CtSt (w wr : World) (gr N b : Nat) (A : Option Addr) (nn c : Nat) (R : Option Addr) (m d : Nat) (K : Option Addr) (p q : Nat) (h : Hp) (l : List Int) : Prop where
  heap : HFX wr (w.heap.size + 1) (fun j => j = b ∨ (Value.slice K p q).ownBlock = some j) A nn R m h
  cnts : OwnI wr (w.heap.size + 1) (.slice K p q) l
  apart : (Value.slice K p q).ownBlock ≠ some b
  box : Rw wr b 50 #[.slice A nn c, .slice R m d, .slice K p q]
  res : Rw wr w.heap.size 50 #[.slice none 0 0, .slice none 0 0, .slice none 0 0]
  rd : Rd wr gr N
  grown : w.grownBy wr (some gr)
  lo : w.heap.size + 1 ≤ b
  old : gr < w.heap.size
  small : SmallH h
  len : l.length ≤ 41
  caps : nn ≤ c ∧ m ≤ d
/-- at the end: heap and counts from lo on may be read in every later world that has left them alone -/
def CF (w : World) (lo : Nat) (A : Option Addr) (n : Nat) (R : Option Addr) (m : Nat) (K : Option Addr) (p : Nat) (h : Hp) (l : List Int) : Prop :=
  ∀ w', w.heap.size ≤ w'.heap.size → (∀ j, lo ≤ j → j < w.heap.size → w'.heap[j]? = w.heap[j]?) → HS w' w'.heap.size A n R m h ∧ IS w' w'.heap.size K p l
def DrewCt (w : World) (gr N : Nat) (e : Ending) (w' : World) : Prop :=
  ∃ (A : Option Addr) (nn c : Nat) (R : Option Addr) (m d : Nat) (K : Option Addr) (p q : Nat) (h : Hp) (l : List Int), e = .returned (ctV A nn c R m d K p q) ∧ nn ≤ c ∧ m ≤ d ∧ p ≤ q ∧ CF w' w.heap.size A nn R m K p h l ∧ SmallH h ∧ l.length ≤ 41 ∧ Rd w' gr (N + 2000) ∧ w.grownBy w' (some gr)
/-- the end: as CtSt, but the counts may be cut -/
structure CtEnd (w wr : World) (gr N b : Nat) (A : Option Addr) (nn c : Nat) (R : Option Addr) (m d : Nat) (K : Option Addr) (p q : Nat) (h : Hp) (l : List Int) : Prop where
  all : CF wr (w.heap.size + 1) A nn R m K p h l
  box : Rw wr b 50 #[.slice A nn c, .slice R m d, .slice K p q]
  res : Rw wr w.heap.size 50 #[.slice none 0 0, .slice none 0 0, .slice none 0 0]
  rd : Rd wr gr N
  grown : w.grownBy wr (some gr)
  old : gr < w.heap.size
  small : SmallH h
  len : l.length ≤ 41
  caps : nn ≤ c ∧ m ≤ d ∧ p ≤ q
section
variable {w wr w1 : World} {gr N N' b nn c m d p q : Nat} {A R K : Option Addr} {h : Hp} {l : List Int}
theorem CtSt.pick (S : CtSt w wr gr N b A nn c R m d K p q h l) (hr : Rd w1 gr N') (hg : wr.grownBy w1 (some gr)) : CtSt w w1 gr N' b A nn c R m d K p q h l := by
  have h1 := S.lo
  have h2 := S.old
  refine ⟨S.heap.step hg.size fun j hj hk _ => hg.block j hk (fun e => by have := Option.some.inj e; omega), S.cnts.far hg ?_, S.apart, S.box.far hg (fun e => by have := Option.some.inj e; omega), S.res.far hg (fun e => by have := Option.some.inj e; omega), hr, World.grownBy.trans S.grown hg, h1, h2, S.small, S.len, S.caps⟩
  right
  intro e
  have := (World.ownsRow.lt S.cnts gr e).1
  omega
theorem CtSt.more (S : CtSt w wr gr N b A nn c R m d K p q h l) (hN : N ≤ N') : CtSt w wr gr N' b A nn c R m d K p q h l := ⟨S.heap, S.cnts, S.apart, S.box, S.res, S.rd.more hN, S.grown, S.lo, S.old, S.small, S.len, S.caps⟩
theorem CtSt.fin (S : CtSt w wr gr N b A nn c R m d K p q h l) : CtEnd w wr gr N b A nn c R m d K p q h l := by
  refine ⟨fun w' hs hb => ⟨S.heap w' hs fun j hj hk _ => hb j hj hk, ?_⟩, S.box, S.res, S.rd, S.grown, S.old, S.small, S.len, S.caps.1, S.caps.2, S.cnts.cap.2⟩
  exact OwnI.reads (row_same S.cnts (Nat.le_refl _) hb)
theorem CtSt.drew (S : CtSt w wr gr N b A nn c R m d K p q h l) : CtSt w wr.drew gr N b A nn c R m d K p q h l := by
  have hb : Below wr.heap.size wr wr.drew := (Below.refl _ _).drew
  exact ⟨S.heap.step hb.size fun j _ hk _ => hb.block j hk, S.cnts.below hb (Nat.le_refl _), S.apart, S.box.keep hb S.box.lt, S.res.keep hb S.res.lt, S.rd.below hb S.rd.lt, grown_below S.grown (hb.mono (by have := S.grown.size; omega)), S.lo, S.old, S.small, S.len, S.caps⟩
/-- one count is written -/
theorem CtSt.put {g i : Nat} (S : CtSt w wr gr N b A nn c R m d (some ⟨g, 0, none⟩) p q h l) (x : Int) : CtSt w (wr.setCell ⟨g, i, none⟩ (.int .i64 x)) gr N b A nn c R m d (some ⟨g, 0, none⟩) p q h (l.set i x) := by
  have hl := S.cnts.cap.1
  subst hl
  have h1 := S.lo
  have h2 := S.old
  have h3 := (World.ownsRow.lt S.cnts g rfl).1
  have h4 : b ≠ g := fun e => S.apart (by rw [e]; rfl)
  have hB : Below w.heap.size wr (wr.setCell ⟨g, i, none⟩ (.int .i64 x)) := (Below.refl _ _).setCell (p := ⟨g, i, none⟩) (by show w.heap.size ≤ g; omega) _
  have e1 : (l.set i x).length = l.length := by simp
  refine ⟨S.heap.step (by simp) fun j hj hk hn => Below.heap_setCell _ _ _ _ (fun e => hn (.inr (by rw [e]; rfl))), ?_, S.apart, S.box.other h4 _, S.res.other (by omega) _, S.rd.below hB h2, grown_below S.grown hB, h1, h2, S.small, by rw [e1]; exact S.len, S.caps⟩
  have := S.cnts.put (j := i) x
  exact this
/-- the first count is cut off -/
theorem CtSt.cut {g : Nat} (S : CtSt w wr gr N b A nn c R m d (some ⟨g, 0, none⟩) (p + 1) q h l) : CtEnd w (wr.setCell ⟨b, 2, none⟩ (.slice (some ⟨g, 1, none⟩) p (q - 1))) gr N b A nn c R m d (some ⟨g, 1, none⟩) p (q - 1) h (l.drop 1) := by
  have h1 := S.lo
  have h2 := S.old
  have hc := S.cnts.cap
  have h4 : b ≠ g := fun e => S.apart (by rw [e]; rfl)
  have hg := (World.ownsRow.lt S.cnts g rfl)
  have hB : Below w.heap.size wr (wr.setCell ⟨b, 2, none⟩ (.slice (some ⟨g, 1, none⟩) p (q - 1))) := (Below.refl _ _).setCell (p := ⟨b, 2, none⟩) (by show w.heap.size ≤ b; omega) _
  refine ⟨fun w' hs hb => ?_, S.box.put 2 _, S.res.other (by omega) _, S.rd.below hB h2, grown_below S.grown hB, h2, S.small, by have := S.len; simp; omega, S.caps.1, S.caps.2, by omega⟩
  have hx : ∀ j, w.heap.size + 1 ≤ j → j < wr.heap.size → j ≠ b → w'.heap[j]? = wr.heap[j]? := fun j hj hk hne => (hb j hj (by simpa using hk)).trans (Below.heap_setCell _ _ _ _ hne)
  refine ⟨S.heap w' (by simpa using hs) fun j hj hk hn => hx j hj hk (fun e => hn (.inl e)), ?_⟩
  have := row_sameX (bad := fun j => j = b) (w' := w') S.cnts (Nat.le_refl _) (fun k hk e => by have := Option.some.inj hk; exact h4 (by rw [← e, ← this])) (fun j hj hk hn => hx j hj hk hn)
  exact (OwnI.reads this).drop1
/-- the only count is cut off, and nothing lies behind it -/
theorem CtSt.cut1 {g : Nat} (S : CtSt w wr gr N b A nn c R m d (some ⟨g, 0, none⟩) 1 1 h l) : CtEnd w (wr.setCell ⟨b, 2, none⟩ (.slice (some ⟨g, 0, none⟩) 0 0)) gr N b A nn c R m d (some ⟨g, 0, none⟩) 0 0 h [] := by
  have h1 := S.lo
  have h2 := S.old
  have hB : Below w.heap.size wr (wr.setCell ⟨b, 2, none⟩ (.slice (some ⟨g, 0, none⟩) 0 0)) := (Below.refl _ _).setCell (p := ⟨b, 2, none⟩) (by show w.heap.size ≤ b; omega) _
  refine ⟨fun w' hs hb => ?_, S.box.put 2 _, S.res.other (by omega) _, S.rd.below hB h2, grown_below S.grown hB, h2, S.small, by simp, S.caps.1, S.caps.2, by omega⟩
  have hx : ∀ j, w.heap.size + 1 ≤ j → j < wr.heap.size → j ≠ b → w'.heap[j]? = wr.heap[j]? := fun j hj hk hne => (hb j hj (by simpa using hk)).trans (Below.heap_setCell _ _ _ _ hne)
  exact ⟨S.heap w' (by simpa using hs) fun j hj hk hn => hx j hj hk (fun e => hn (.inl e)), IS.none_ _ _ _⟩
/-- heap and counts of a call's own come into the box -/
theorem CtSt.next {w5 : World} {A' R' K' : Option Addr} {nn' c' m' d' p' q' : Nat} {h' : Hp} {l' : List Int} (S : CtSt w wr gr N b A nn c R m d K p q h l) (B : Below wr.heap.size wr w5) (o : OwnC w5 wr.heap.size (.slice A' nn' c') (.slice R' m' d') (.slice K' p' q') h' l') (hs : SmallH h') (hl : l'.length ≤ 41) :
    CtSt w (((w5.setCell ⟨b, 0, none⟩ (.slice A' nn' c')).setCell ⟨b, 1, none⟩ (.slice R' m' d')).setCell ⟨b, 2, none⟩ (.slice K' p' q')) gr N b A' nn' c' R' m' d' K' p' q' h' l' := by
  have hb := S.box.lt
  have hlo := S.lo
  have hold := S.old
  obtain ⟨rvs, own⟩ := o
  have ap := own.apart_below hb
  have hB0 : Below b w5 (((w5.setCell ⟨b, 0, none⟩ (.slice A' nn' c')).setCell ⟨b, 1, none⟩ (.slice R' m' d')).setCell ⟨b, 2, none⟩ (.slice K' p' q')) := (((Below.refl b w5).setCell (p := ⟨b, 0, none⟩) (Nat.le_refl _) _).setCell (p := ⟨b, 1, none⟩) (Nat.le_refl _) _).setCell (p := ⟨b, 2, none⟩) (Nat.le_refl _) _
  have hB : Below b wr (((w5.setCell ⟨b, 0, none⟩ (.slice A' nn' c')).setCell ⟨b, 1, none⟩ (.slice R' m' d')).setCell ⟨b, 2, none⟩ (.slice K' p' q')) := (B.mono (by omega)).trans hB0
  have own2 := (((own.put ap 0 (.slice A' nn' c')).put ap 1 (.slice R' m' d')).put ap 2 (.slice K' p' q')).base (bs' := w.heap.size + 1) (by have := S.grown.size; omega)
  have hsz := S.grown.size
  have hcp := own.heap.caps
  refine ⟨own2.heap.hfx (Nat.le_refl _) (fun v hv k hk => ?_), own2.cnts, ?_, ((S.box.keep B hb).put 0 _ |>.put 1 _ |>.put 2 _), S.res.keep hB (by omega), S.rd.below hB (by omega), grown_below S.grown (hB.mono (by omega)), hlo, hold, hs, hl, hcp.2.2⟩
  · have hk2 := own.heap.blocks hv hk
    rintro (e | e)
    · omega
    · rcases own.sep v hv with e2 | e2
      · rw [hk] at e2; cases e2
      · exact e2 (hk.trans e.symm)
  · intro e
    have := (World.ownsRow.lt own.cnts b e).1
    omega
end
/-- counts of the call's own, and what a pointer v leads to lies apart, once fl -/
def OwnFI (w : World) (base : Nat) (v : Value) (fl : Bool) (vk : Value) (l : List Int) : Prop := OwnI w base vk l ∧ ∀ g, fl = true → v = .pointer (some ⟨g, 0, none⟩) → vk.ownBlock ≠ some g
section
variable {w w' : World} {base : Nat} {v vk : Value} {fl fl' : Bool} {l : List Int}
theorem OwnFI.eq (ho : OwnFI w base v fl vk l) (e : fl' = fl) : OwnFI w base v fl' vk l := e ▸ ho
theorem OwnFI.alloc (ho : OwnFI w base v fl vk l) (ob : Obj) : OwnFI (w.alloc ob) base (.pointer (some ⟨w.heap.size, 0, none⟩)) fl' vk l := by
  refine ⟨World.ownsRow.alloc ho.1 ob, fun g _ e e2 => ?_⟩
  injection e with e
  injection e with e
  injection e with e
  subst e
  have := (World.ownsRow.lt ho.1 _ e2).2
  omega
theorem OwnFI.of {base' : Nat} (hb : base' ≤ base) (ho : OwnI w base vk l) (hv : ∀ g, fl = true → v = .pointer (some ⟨g, 0, none⟩) → g < base) : OwnFI w base' v fl vk l :=
  ⟨ho.base hb, fun g hf e e2 => by have := hv g hf e; have := (World.ownsRow.lt ho g e2).1; omega⟩
theorem OwnFI.put {g : Nat} (ho : OwnFI w base (.pointer (some ⟨g, 0, none⟩)) fl vk l) (hl : fl = true) (u0 u1 u2 : Value) : OwnFI (((w.setCell ⟨g, 0, none⟩ u0).setCell ⟨g, 1, none⟩ u1).setCell ⟨g, 2, none⟩ u2) base (.pointer (some ⟨g, 0, none⟩)) fl vk l := by
  have hn := ho.2 g hl rfl
  exact ⟨((ho.1.far (put_any w g 0 u0) (.inr hn)).far (put_any _ g 1 u1) (.inr hn)).far (put_any _ g 2 u2) (.inr hn), ho.2⟩
end

set_option maxRecDepth 100000 in
set_option maxHeartbeats 8000000 in
theorem l20Counted_any (gr N : Nat) (n : Int) (w : World) (h : Rd w gr N) (hN : N ≤ 8000) (hn1 : 1 ≤ n) (hn : n ≤ 1000) :
    Calls Try.prog 75 #[.pointer (some ⟨gr, 0, none⟩), .int .i64 n] w (DrewCt w gr N) := by
  have hgl := h.lt
  have h0 : Rd (w.alloc (.cells #[.slice none 0 0, .slice none 0 0, .slice none 0 0] 50)) gr N := h.below ((Below.refl w.heap.size w).alloc (Nat.le_refl _) _) hgl
  have r0 := Rw.new w 50 #[.slice none 0 0, .slice none 0 0, .slice none 0 0]
  have g0 : w.grownBy (w.alloc (.cells #[.slice none 0 0, .slice none 0 0, .slice none 0 0] 50)) (some gr) := World.grownBy_alloc _ _ _
  have z0 : w.heap.size + 1 = (w.alloc (.cells #[.slice none 0 0, .slice none 0 0, .slice none 0 0] 50)).heap.size := by simp
  go_enter Try.func75, Try.ntmps75
  go_upto_region 1 with fail
  generalize w.alloc (.cells #[.slice none 0 0, .slice none 0 0, .slice none 0 0] 50) = w0 at h0 r0 g0 z0 ⊢
  have HZ := Lib.hid z0
  clear z0
  go_wp2_with fail
  refine (l20Heap_any gr N n _ h0 (by omega) (by omega) hn).mono ?_
  rintro e w1 ⟨A, nn, c, R, m, d, hh, rfl, hc1, hc2, HFx, -, hsm, hr1, g1⟩
  have r1 := r0.far g1 (fun e => by have := Option.some.inj e; omega)
  have q1 := Rw.new w1 26 #[.slice A nn c, .slice R m d]
  have hs1 : w.heap.size + 1 ≤ w1.heap.size := by have := HZ.out; have := g1.size; omega
  rw [← HZ.out] at HFx
  have HFn := HFx
  have B2 : Below w1.heap.size w1 (w1.alloc (.cells #[.slice A nn c, .slice R m d] 26)) := (Below.refl _ _).alloc (Nat.le_refl _) _
  have r2 := r1.alloc (.cells #[.slice A nn c, .slice R m d] 26)
  have hr2 := hr1.below B2 hr1.lt
  have g2 := grown_below (World.grownBy.trans g0 g1) (B2.mono (by omega))
  have HF2 := HFx.below B2 (Nat.le_refl _)
  have z2 : (w1.alloc (.cells #[.slice A nn c, .slice R m d] 26)).heap.size = w1.heap.size + 1 := by simp
  obtain ⟨bh, hbh⟩ : ∃ bh, w1.heap.size = bh := ⟨_, rfl⟩
  go_upto_region 2 with fail
  generalize w1.alloc (.cells #[.slice A nn c, .slice R m d] 26) = w2 at q1 B2 r2 hr2 g2 HF2 z2 ⊢
  clear HFx HFn
  rw [hbh] at q1 B2 z2 hs1
  have hnn := hsm.1
  have hmm := hsm.2.1
  have hlc := HF2.reads.cells.1
  have hlr := HF2.reads.roots.1
  have CALL := Lib.hid (fun (ww : World) (hB : Below w2.heap.size w2 ww) => mRefCounts_any A R nn c m d hh ww (HF2.below hB (Nat.le_refl _)).reads (by omega) (by omega))
  obtain ⟨ll, hll⟩ : ∃ ll, Hps.countsH hh = ll := ⟨_, rfl⟩
  have HLEN := Lib.hid (show ll.length ≤ 41 by rw [← hll]; exact Nat.le_trans (Hps.countsH_len hh) hnn)
  rw [hll] at CALL
  obtain ⟨p, hp⟩ : ∃ p, ll.length = p := ⟨_, rfl⟩
  have HP := Lib.hid hp
  have x0 : w2.cell? ⟨bh, 0, none⟩ = some (.slice A nn c) := q1.cell 0
  have x1 : w2.cell? ⟨bh, 1, none⟩ = some (.slice R m d) := q1.cell 1
  have hbl : bh < w2.heap.size := by omega
  clear hll hp q1 h0 r0 g0 r1 g1 hr1 B2 hnn hmm hlc hlr hbh w1 h
  refine wp_region_inv (by kernel_rfl) (by kernel_rfl) (fun L ac ww => ∃ t6 t11 t12 t13 t14 : Value, ac = { tmps := #[Value.pointer (some { block := gr, off := 0 }), Value.int IntKind.i64 n, undef, undef, Value.pointer (some { block := w.heap.size, off := 0 }), Value.pointer (some { block := bh, off := 0 }), t6, undef, Value.pointer (some { block := gr, off := 0 }), Value.int IntKind.i64 n, heapV A nn c R m d, t11, t12, t13, t14, undef, undef, undef, undef, undef, undef, undef, undef, undef, undef, undef, undef, undef, undef, undef, undef, undef, undef, undef, undef, undef, undef, undef, undef, undef, undef, undef, undef, undef, undef, undef, undef, undef, undef, undef, undef, undef, undef], defers := [] } ∧ (Below w2.heap.size w2 ww) ∧ (L 5 = true → L 4 = true) ∧ (L 3 = true → L 2 = true) ∧ (L 5 = true → L 3 = true) ∧ (L 0 = true → t11 = .agg #[.slice A nn c, .slice R m d]) ∧ (L 1 = true → t12 = .agg #[.slice A nn c, .slice R m d]) ∧ (L 2 = true → ∃ (K : Option Addr) (q : Nat), t13 = .slice K p q ∧ OwnFI ww w2.heap.size t6 (L 4) (.slice K p q) ll) ∧ (L 3 = true → ∃ (K : Option Addr) (q : Nat), t13 = .slice K p q ∧ t14 = .agg #[.slice A nn c, .slice R m d, .slice K p q]) ∧ (L 4 = true → ∃ (g5 : Nat) (z0 z1 z2 : Value), t6 = .pointer (some ⟨g5, 0, none⟩) ∧ w2.heap.size ≤ g5 ∧ Rw ww g5 50 #[z0, z1, z2]) ∧ (L 5 = true → ∃ (g5 : Nat) (K : Option Addr) (q : Nat), t6 = .pointer (some ⟨g5, 0, none⟩) ∧ w2.heap.size ≤ g5 ∧ Rw ww g5 50 #[.slice A nn c, .slice R m d, .slice K p q] ∧ OwnI ww w2.heap.size (.slice K p q) ll ∧ (Value.slice K p q).ownBlock ≠ some g5)) ?h0 ?hstep ?hdone
  case h0 => exact ⟨_, _, _, _, _, rfl, (Below.refl _ _).drew, fun h => absurd h Bool.false_ne_true, fun h => absurd h Bool.false_ne_true, fun h => absurd h Bool.false_ne_true, (fun h => absurd h Bool.false_ne_true), (fun h => absurd h Bool.false_ne_true), (fun h => absurd h Bool.false_ne_true), (fun h => absurd h Bool.false_ne_true), (fun h => absurd h Bool.false_ne_true), (fun h => absurd h Bool.false_ne_true)⟩
  case hstep =>
    rintro L ac ww i o ho hL hd ⟨t6, t11, t12, t13, t14, rfl, I0, I1, I2, I3, f0, f1, f2, f3, f4, f5⟩
    have hi : i < 6 := (Array.getElem?_eq_some_iff.1 ho).1
    obtain rfl | rfl | rfl | rfl | rfl | rfl : i = 0 ∨ i = 1 ∨ i = 2 ∨ i = 3 ∨ i = 4 ∨ i = 5 := by omega
    · obtain rfl := Option.some.inj ho
      have y0 : ww.cell? ⟨bh, 0, none⟩ = some (.slice A nn c) := (I0.cell (p := ⟨bh, 0, none⟩) hbl).trans x0
      have y1 : ww.cell? ⟨bh, 1, none⟩ = some (.slice R m d) := (I0.cell (p := ⟨bh, 1, none⟩) hbl).trans x1
      refine wpOp_step rfl (fun K' hK => ?_)
      go_simp
      refine hK _ _ ?_
      exact ⟨_, _, _, _, _, rfl, (I0), (fun h => upd_mono (I1 (upd_ne h (by decide)))), (fun h => upd_mono (I2 (upd_ne h (by decide)))), (fun h => upd_mono (I3 (upd_ne h (by decide)))), (fun _ => rfl), (kp f1), (fun h => by
        obtain ⟨K, q, e, oo⟩ := f2 (upd_ne h (by decide))
        exact ⟨K, q, e, oo.eq (upd_other (by decide))⟩), (kp f3), (kp f4), (kp f5)⟩
    · obtain rfl := Option.some.inj ho
      have y0 : ww.cell? ⟨bh, 0, none⟩ = some (.slice A nn c) := (I0.cell (p := ⟨bh, 0, none⟩) hbl).trans x0
      have y1 : ww.cell? ⟨bh, 1, none⟩ = some (.slice R m d) := (I0.cell (p := ⟨bh, 1, none⟩) hbl).trans x1
      refine wpOp_step rfl (fun K' hK => ?_)
      go_simp
      refine hK _ _ ?_
      exact ⟨_, _, _, _, _, rfl, (I0), (fun h => upd_mono (I1 (upd_ne h (by decide)))), (fun h => upd_mono (I2 (upd_ne h (by decide)))), (fun h => upd_mono (I3 (upd_ne h (by decide)))), (kp f0), (fun _ => rfl), (fun h => by
        obtain ⟨K, q, e, oo⟩ := f2 (upd_ne h (by decide))
        exact ⟨K, q, e, oo.eq (upd_other (by decide))⟩), (kp f3), (kp f4), (kp f5)⟩
    · obtain rfl := Option.some.inj ho
      have g1 := f1 (hd ⟨1, .data⟩ (by simp) rfl)
      subst g1
      refine wpOp_step rfl (fun K' hK => ?_)
      go_simp
      refine (CALL.out ww I0).mono ?_
      rintro e w' ⟨v1, rfl, oi, b5⟩
      obtain ⟨K, q, e8, -⟩ := oi.form
      rw [HP.out] at e8
      subst e8
      have hsz := I0.size
      refine hK _ _ ?_
      exact ⟨_, _, _, _, _, rfl, (I0.trans (b5.mono I0.size)), (fun h => upd_mono (I1 (upd_ne h (by decide)))), (fun h => upd_mono (I2 (upd_ne h (by decide)))), (fun h => upd_mono (I3 (upd_ne h (by decide)))), (kp f0), (kp f1), (fun _ => ⟨K, q, rfl, OwnFI.of hsz oi (fun g5 hl e => by
        obtain ⟨g6, z0, z1, z2, e', hg5, hz⟩ := f4 (by rw [upd_other (by decide)] at hl; exact hl)
        rw [e'] at e
        injection e with e
        injection e with e
        injection e with e
        rw [← e]
        exact hz.lt)⟩), (fun h => absurd (I2 (upd_ne h (by decide))) (by rw [hL]; decide)), (fun h => by
        obtain ⟨g5, z0, z1, z2, e, hg5, hz⟩ := f4 (upd_ne h (by decide))
        exact ⟨g5, z0, z1, z2, e, hg5, hz.keep b5 hz.lt⟩), (fun h => absurd (I2 (I3 (upd_ne h (by decide)))) (by rw [hL]; decide))⟩
    · obtain rfl := Option.some.inj ho
      have g0 := f0 (hd ⟨0, .data⟩ (by simp) rfl)
      have g2 := f2 (hd ⟨2, .data⟩ (by simp) rfl)
      subst g0
      obtain ⟨K, q, rfl, o2⟩ := g2
      refine wpOp_step rfl (fun K' hK => ?_)
      go_simp
      refine hK _ _ ?_
      exact ⟨_, _, _, _, _, rfl, (I0), (fun h => upd_mono (I1 (upd_ne h (by decide)))), (fun _ => upd_mono (hd ⟨2, .data⟩ (by simp) rfl)), (fun h => upd_mono (I3 (upd_ne h (by decide)))), (kp f0), (kp f1), (fun _ => ⟨K, q, rfl, o2.eq (upd_other (by decide))⟩), (fun _ => ⟨K, q, rfl, rfl⟩), (kp f4), (kp f5)⟩
    · obtain rfl := Option.some.inj ho
      refine wpOp_step rfl (fun K' hK => ?_)
      go_simp
      refine hK _ _ ?_
      exact ⟨_, _, _, _, _, rfl, (I0.alloc I0.size _), (fun _ => upd_self), (fun h => upd_mono (I2 (upd_ne h (by decide)))), (fun h => upd_mono (I3 (upd_ne h (by decide)))), (kp f0), (kp f1), (fun h => by
        obtain ⟨K, q, e, oo⟩ := f2 (upd_ne h (by decide))
        exact ⟨K, q, e, oo.alloc _⟩), (kp f3), (fun _ => ⟨ww.heap.size, _, _, _, rfl, I0.size, Rw.new _ _ _⟩), (fun h => absurd (I1 (upd_ne h (by decide))) (by rw [hL]; decide))⟩
    · obtain rfl := Option.some.inj ho
      have g3 := f3 (hd ⟨3, .data⟩ (by simp) rfl)
      have g4 := f4 (hd ⟨4, .data⟩ (by simp) rfl)
      have HL4 := Lib.hid (hd ⟨4, .data⟩ (by simp) rfl)
      have HL3 := Lib.hid (hd ⟨3, .data⟩ (by simp) rfl)
      obtain ⟨K, q, rfl, rfl⟩ := g3
      obtain ⟨g5, z0, z1, z2, rfl, hg5, hz⟩ := g4
      obtain ⟨K6, q6, e6, o2⟩ := f2 (I2 HL3.out)
      simp at e6
      obtain ⟨rfl, rfl⟩ := e6
      have u0 := hz.cell 0
      have v0 := hz.frozen 0
      have u1 := hz.cell 1
      have v1 := hz.frozen 1
      have u2 := hz.cell 2
      have v2 := hz.frozen 2
      simp at u0 u1 u2
      refine wpOp_step rfl (fun K' hK => ?_)
      go_simp
      refine hK _ _ ?_
      exact ⟨_, _, _, _, _, rfl, (((I0.setCell (p := ⟨g5, 0, none⟩) hg5 _).setCell (p := ⟨g5, 1, none⟩) hg5 _).setCell (p := ⟨g5, 2, none⟩) hg5 _), (fun _ => upd_mono HL4.out), (fun h => upd_mono (I2 (upd_ne h (by decide)))), (fun _ => upd_mono HL3.out), (kp f0), (kp f1), (fun h => ⟨_, _, rfl, (o2.put HL4.out _ _ _).eq (upd_other (by decide))⟩), (fun h => ⟨_, _, rfl, rfl⟩), (fun h => ⟨_, _, _, _, rfl, hg5, ((hz.put 0 _).put 1 _).put 2 _⟩), (fun _ => ⟨_, _, _, rfl, hg5, ((hz.put 0 _).put 1 _).put 2 _, (o2.put HL4.out _ _ _).1, o2.2 _ HL4.out rfl⟩)⟩
  case hdone =>
    rintro L ac ww hall ⟨t6, t11, t12, t13, t14, rfl, I0, I1, I2, I3, f0, f1, f2, f3, f4, f5⟩
    have e0 := f0 (hall 0 (by decide))
    have e1 := f1 (hall 1 (by decide))
    have e2 := f2 (hall 2 (by decide))
    have e3 := f3 (hall 3 (by decide))
    have e4 := f4 (hall 4 (by decide))
    have e5 := f5 (hall 5 (by decide))
    clear f0 f1 f2 f3 f4 f5
    obtain ⟨b, K, q, rfl, hg5, hz, oc, hap⟩ := e5
    have hsz := I0.size
    have hold2 := g2.size
    have S : CtSt w ww gr (N + 700) b A nn c R m d K p q hh ll :=
      ⟨(HF2.more (lo' := w.heap.size + 1) (Nat.le_refl _)).x hsz (fun j hj hk => I0.block j hk) (fun j e => by
        rcases e with e | e
        · omega
        · exact (World.ownsRow.lt oc j e).1), oc.base (by omega), hap, hz, r2.keep I0 r2.lt, hr2.below I0 hr2.lt, grown_below g2 (I0.mono (by omega)), by omega, hgl, hsm, HLEN.out, hc1, hc2⟩
    obtain ⟨t11, ht11⟩ : ∃ t11, t11 = t11 := ⟨Value.bool true, rfl⟩
    clear e0 e1 e2 e3 e4 I0 I1 I2 I3 oc hap hz HF2 r2 hr2 g2 x0 x1 hbl CALL hs1 hc1 hc2 hsm z2 HLEN HP hg5 hsz hold2 ht11 t11
    clear hall
    go_upto_region 3 with fail
    go_wp2_with fail
    refine (pick_any _ _ _ _ S.rd (by omega) (by omega)).mono ?_
    rintro e w3 ⟨x1, rfl, ax1, cx1, hrx1, gx1⟩
    replace S := S.pick hrx1 gx1
    have cx1' : x1 < 2 := by omega
    clear cx1 hrx1 gx1
    go_upto_if 17 with fail
    go_cut [] from 8 (fun wc => ∃ (A : Option Addr) (nn c : Nat) (R : Option Addr) (m d : Nat) (K : Option Addr) (p q : Nat) (hh : Hp) (ll : List Int), CtSt w wc gr (N + 1400) b A nn c R m d K p q hh ll)
    case first =>
      by_cases hx : x1 = 0
      · subst hx
        go_wp2_with fail
        refine (l20Program_zero gr _ _ S.rd (by omega)).mono ?_
        rintro e w4 ⟨v, l, rfl, om, hok, hr4, g4⟩
        obtain ⟨A0, c0, rfl, -⟩ := om.form
        have hl40 := (Hps.okCms_iff.1 hok).2
        have rm := om.reads
        replace S := S.pick hr4 g4
        obtain ⟨ok1, -, -⟩ := Hps.run_same hok
        obtain ⟨okv, okl⟩ := Hps.okCt_iff.1 ok1
        have HSM := Lib.hid (small_valid okv)
        have HSL := Lib.hid (show (Hps.runCt l).2.length ≤ 41 by rw [okl, Hps.counts_len]; exact HSM.out.1)
        clear hok ok1 okv okl om hr4 g4
        go_wp2_with fail
        refine (mRunCounted_any A0 l.length c0 l _ rm (by omega)).mono ?_
        rintro e w5 ⟨vc, vr, vk, rfl, oc, b5⟩
        obtain ⟨A6, n6, c6, R6, m6, d6, K6, p6, q6, rfl, rfl, rfl⟩ := oc.slices
        have SN := Lib.hid ((S.next b5 oc HSM.out HSL.out).more (N' := N + 1400) (by omega))
        have q5 := S.box.keep b5 S.box.lt
        have u0 := q5.cell 0
        have u1 := q5.cell 1
        have u2 := q5.cell 2
        have v0 := q5.frozen 0
        have v1 := q5.frozen 1
        have v2 := q5.frozen 2
        simp at u0 u1 u2
        clear S q5 oc b5 rm HSM HSL
        go_wp2_with fail
        go_meet
        case rel => exact ⟨_, _, _, _, _, _, _, _, _, _, _, SN.out⟩
      · have hx' : (x1 == 0) = false := by rw [beq_eq_false_iff_ne]; exact hx
        clear hx
        go_wp2_with fail
        go_meet
        case rel => exact ⟨_, _, _, _, _, _, _, _, _, _, _, S.more (by omega)⟩
    case rest =>
    clear S A nn c R m d K p q hh ll ax1 cx1' w3
    obtain ⟨A, nn, c, R, m, d, K, p, q, hh, ll, S⟩ := hcut
    go_upto_region 5 with fail
    go_cut [29] from 8 (fun v wc => ∃ bb, v = .bool bb ∧ Hid (bb = true → 0 < p) ∧ CtSt w wc gr (N + 1401) b A nn c R m d K p q hh ll)
    case first =>
      have u0 : wc.cell? ⟨b, 0, none⟩ = some (.slice A nn c) := S.box.cell 0
      have u1 : wc.cell? ⟨b, 1, none⟩ = some (.slice R m d) := S.box.cell 1
      have u2 : wc.cell? ⟨b, 2, none⟩ = some (.slice K p q) := S.box.cell 2
      by_cases hp : 0 < p
      · have hp' : (0 : Int) < p := by omega
        go_wp2_with fail
        refine (odd_any _ _ _ _ S.rd (by omega) hn1 (by omega)).mono ?_
        rintro e w4 ⟨bb, rfl, hr4, g4⟩
        have SN := Lib.hid ((S.pick hr4 g4).more (N' := N + 1401) (by omega))
        have HPP := Lib.hid hp
        clear hr4 g4 S u0 u1 u2
        go_wp2_with fail
        go_meet
        case rel => exact ⟨bb, by first | rfl | simp, Lib.hid (fun _ => HPP.out), SN.out⟩
      · have hp0 : p = 0 := by omega
        have SN := Lib.hid (S.more (N' := N + 1401) (by omega))
        subst hp0
        clear S
        go_wp2_with fail
        go_meet
        case rel => exact ⟨false, by first | rfl | simp, Lib.hid (fun h => absurd h (by decide)), by first | exact SN.out | exact SN.out.drew⟩
    case rest =>
    clear S
    obtain ⟨bb, rfl, HPB, S⟩ := hcut
    go_upto_if 29 with fail
    go_cut [] from 7 (fun wc => ∃ (A : Option Addr) (nn c : Nat) (R : Option Addr) (m d : Nat) (K : Option Addr) (p q : Nat) (hh : Hp) (ll : List Int), CtEnd w wc gr (N + 1500) b A nn c R m d K p q hh ll)
    case first =>
      cases bb
      · go_wp2_with fail
        go_meet
        case rel => exact ⟨_, _, _, _, _, _, _, _, _, _, _, (S.more (by omega)).fin⟩
      · have hp := HPB.out rfl
        obtain ⟨p, rfl⟩ : ∃ p', p = p' + 1 := ⟨p - 1, by omega⟩
        obtain ⟨g, rfl⟩ : ∃ g, K = some ⟨g, 0, none⟩ := by
          obtain ⟨A1, c1, e, h1⟩ := S.cnts.form
          injection e with e1 e2 e3
          obtain ⟨g, e4, -, -⟩ := h1 (by omega)
          exact ⟨g, e1.trans e4⟩
        have hlen := S.cnts.cap.1
        have hl41 := S.len
        clear HPB hp
        go_wp2_with fail
        refine (pick_any _ _ _ _ S.rd (by omega) (by omega)).mono ?_
        rintro e w4 ⟨x2, rfl, ax2, cx2, hrx2, gx2⟩
        replace S := S.pick hrx2 gx2
        have cx2' : x2 < 2 := by omega
        clear cx2 hrx2 gx2
        have u2 : w4.cell? ⟨b, 2, none⟩ = some (.slice (some ⟨g, 0, none⟩) (p + 1) q) := S.box.cell 2
        by_cases hx : x2 = 0
        · subst hx
          go_wp2_with fail
          refine (pick_any _ _ _ _ S.rd (by omega) (by omega)).mono ?_
          rintro e w5 ⟨x3, rfl, ax3, cx3, hrx3, gx3⟩
          replace S := S.pick hrx3 gx3
          have cx3' : x3 < (p + 1 : Nat) := by omega
          clear cx3 hrx3 gx3 u2
          obtain ⟨k, rfl⟩ := Int.eq_ofNat_of_zero_le ax3
          have hk : k < p + 1 := by omega
          have u2 : w5.cell? ⟨b, 2, none⟩ = some (.slice (some ⟨g, 0, none⟩) (p + 1) q) := S.box.cell 2
          obtain ⟨y, hy⟩ : ∃ y, ll[k]? = some y := ⟨_, List.getElem?_eq_getElem (by omega)⟩
          have c0 : w5.cell? ⟨g, k, none⟩ = some (.int .i64 y) := by
            obtain ⟨g', o', x', e1, hg', hx', c'⟩ := S.cnts.reads.at_ hk
            injection e1 with e1
            injection e1 with e1 e2
            subst e1
            subst e2
            rw [hy] at hx'
            obtain rfl := Option.some.inj hx'
            rwa [Nat.zero_add] at c'
          have fz : w5.frozen? ⟨g, k, none⟩ = false := S.cnts.frozen hlen.symm k
          have SN0 := Lib.hid S
          have hk3 : (k : Int) < (p : Int) + 1 := by omega
          clear hy S ax3 cx3' hlen hl41
          go_upto_region 8 with fail
          go_still_tail 9, (by kernel_rfl)
          change wpList _ _ _ _ _ w5.drew
          have SD := Lib.hid (fun x => ((SN0.out.drew).put (i := k) x).more (N' := N + 1500) (by omega))
          have cd : w5.drew.cell? ⟨g, k, none⟩ = some (.int .i64 y) := c0
          have fd : w5.drew.frozen? ⟨g, k, none⟩ = false := fz
          generalize w5.drew = w6 at SD cd fd ⊢
          clear c0 fz u2
          go_wp2_with fail
          go_meet
          case rel => exact ⟨_, _, _, _, _, _, _, _, _, _, _, (SD.out _).fin⟩
        · have hx' : (x2 == 0) = false := by rw [beq_eq_false_iff_ne]; exact hx
          have f2 : w4.frozen? ⟨b, 2, none⟩ = false := S.box.frozen 2
          have hcq := S.cnts.cap.2
          clear hx hlen hl41
          by_cases hq1 : q = 1
          · subst hq1
            obtain rfl : p = 0 := by omega
            have SC := Lib.hid (S.more (N' := N + 1500) (by omega)).cut1
            clear S
            go_wp2_with fail
            go_meet
            case rel => exact ⟨_, _, _, _, _, _, _, _, _, _, _, SC.out⟩
          · have SC := Lib.hid (S.more (N' := N + 1500) (by omega)).cut
            clear S
            go_wp2_with fail
            go_meet
            case rel => exact ⟨_, _, _, _, _, _, _, _, _, _, _, SC.out⟩
    case rest =>
    clear S A nn c R m d K p q hh ll HPB
    obtain ⟨A, nn, c, R, m, d, K, p, q, hh, ll, S⟩ := hcut
    have u0 : wc.cell? ⟨b, 0, none⟩ = some (.slice A nn c) := S.box.cell 0
    have u1 : wc.cell? ⟨b, 1, none⟩ = some (.slice R m d) := S.box.cell 1
    have u2 : wc.cell? ⟨b, 2, none⟩ = some (.slice K p q) := S.box.cell 2
    have r2 : wc.frozen? ⟨w.heap.size, 0, none⟩ = false := S.res.frozen 0
    have r3 : wc.frozen? ⟨w.heap.size, 1, none⟩ = false := S.res.frozen 1
    have r4 : wc.frozen? ⟨w.heap.size, 2, none⟩ = false := S.res.frozen 2
    have r5 : wc.cell? ⟨w.heap.size, 0, none⟩ = some (.slice none 0 0) := S.res.cell 0
    have r6 : wc.cell? ⟨w.heap.size, 1, none⟩ = some (.slice none 0 0) := S.res.cell 1
    have r7 : wc.cell? ⟨w.heap.size, 2, none⟩ = some (.slice none 0 0) := S.res.cell 2
    have q4 := ((S.res.put 0 (.slice A nn c)).put 1 (.slice R m d)).put 2 (.slice K p q)
    have hBF : Below w.heap.size wc (((wc.setCell ⟨w.heap.size, 0, none⟩ (.slice A nn c)).setCell ⟨w.heap.size, 1, none⟩ (.slice R m d)).setCell ⟨w.heap.size, 2, none⟩ (.slice K p q)) := (((Below.refl _ _).setCell (p := ⟨w.heap.size, 0, none⟩) (Nat.le_refl _) _).setCell (p := ⟨w.heap.size, 1, none⟩) (Nat.le_refl _) _).setCell (p := ⟨w.heap.size, 2, none⟩) (Nat.le_refl _) _
    have hCF : CF (((wc.setCell ⟨w.heap.size, 0, none⟩ (.slice A nn c)).setCell ⟨w.heap.size, 1, none⟩ (.slice R m d)).setCell ⟨w.heap.size, 2, none⟩ (.slice K p q)) w.heap.size A nn R m K p hh ll := fun w' h1 h2 => S.all w' (by simpa using h1) fun j hj hk => (h2 j (by omega) (by simpa using hk)).trans (by
      rw [Below.heap_setCell _ _ _ _ (by show j ≠ w.heap.size; omega), Below.heap_setCell _ _ _ _ (by show j ≠ w.heap.size; omega), Below.heap_setCell _ _ _ _ (by show j ≠ w.heap.size; omega)])
    have D := Lib.hid (And.intro hCF (And.intro S.small (And.intro S.len (And.intro ((S.rd.below hBF S.old).more (N' := N + 2000) (by omega)) (grown_below S.grown hBF)))))
    have hcaps := S.caps
    have s8 : (((wc.setCell ⟨w.heap.size, 0, none⟩ (.slice A nn c)).setCell ⟨w.heap.size, 1, none⟩ (.slice R m d)).setCell ⟨w.heap.size, 2, none⟩ (.slice K p q)).cell? ⟨w.heap.size, 0, none⟩ = some (.slice A nn c) := q4.cell 0
    have s9 : (((wc.setCell ⟨w.heap.size, 0, none⟩ (.slice A nn c)).setCell ⟨w.heap.size, 1, none⟩ (.slice R m d)).setCell ⟨w.heap.size, 2, none⟩ (.slice K p q)).cell? ⟨w.heap.size, 1, none⟩ = some (.slice R m d) := q4.cell 1
    have s10 : (((wc.setCell ⟨w.heap.size, 0, none⟩ (.slice A nn c)).setCell ⟨w.heap.size, 1, none⟩ (.slice R m d)).setCell ⟨w.heap.size, 2, none⟩ (.slice K p q)).cell? ⟨w.heap.size, 2, none⟩ = some (.slice K p q) := q4.cell 2
    clear q4 hBF hCF S
    go_wp2_with fail
    exact bodyPost_ret (v := ctV A nn c R m d K p q) (by simp [results, Try.results75, go_sem, *]) rfl ⟨A, nn, c, R, m, d, K, p, q, hh, ll, rfl, hcaps.1, hcaps.2.1, hcaps.2.2, D.out.1, D.out.2.1, D.out.2.2.1, D.out.2.2.2.1, D.out.2.2.2.2⟩
end Go.Proofs.Ytijgfpcpkmpdpaa
