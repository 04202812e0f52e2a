/- A heap of a call's own in a box, while it is written into: and the model's l11Drop. No conditions. -/
import Derived.Test.YtkdoolilggkjpaaKg
namespace Go.Proofs.Ytkdoolilggkjpaa
open Go.RowKit
set_option maxRecDepth 100000

/-- a heap of the call's own in the box b; what was there before the world w0 is as it was -/
structure BoxSt (w0 wr : World) (b : Nat) (vc vr : Value) (rvs : List Value) (h : Hp) : Prop where
  own : OwnHx wr w0.heap.size vc vr rvs h
  apart : Apart (some b) (vc :: vr :: rvs)
  box : Rw wr b 26 #[vc, vr]
  low : Below w0.heap.size w0 wr
  lo : w0.heap.size ≤ b
section
variable {w0 wr w1 : World} {b g c d i k : Nat} {vc vr : Value} {rvs : List Value} {h : Hp} {cl : Cl}
theorem BoxSt.up (S : BoxSt w0 wr b vc vr rvs h) (hw : Below wr.heap.size wr w1) : BoxSt w0 w1 b vc vr rvs h :=
  ⟨S.own.below hw (Nat.le_refl _), S.apart, S.box.keep hw S.box.lt, S.low.trans (hw.mono S.low.size), S.lo⟩
theorem BoxSt.drew (S : BoxSt w0 wr b vc vr rvs h) : BoxSt w0 wr.drew b vc vr rvs h := S.up (Below.refl _ _).drew
theorem BoxSt.into (S : BoxSt w0 wr b vc vr rvs h) {v : Value} (hv : v ∈ vc :: vr :: rvs) (hg : v.ownBlock = some g) {rvs' : List Value} {h' : Hp} (u : Value)
    (ho : OwnHx (wr.setCell ⟨g, i, none⟩ u) w0.heap.size vc vr rvs' h') (ha : ∀ v ∈ rvs', v.ownBlock = none ∨ v.ownBlock ≠ some b) : BoxSt w0 (wr.setCell ⟨g, i, none⟩ u) b vc vr rvs' h' := by
  have h1 := S.own.blocks hv hg
  have h2 : b ≠ g := by
    rcases S.apart v hv with e | e
    · rw [hg] at e; cases e
    · intro e'; rw [hg] at e; exact e (by rw [e'])
  refine ⟨ho, ?_, S.box.other h2 u, S.low.setCell (p := ⟨g, i, none⟩) (by show w0.heap.size ≤ g; omega) u, S.lo⟩
  intro x hx
  simp only [List.mem_cons] at hx
  rcases hx with rfl | rfl | hx
  · exact S.apart x (by simp)
  · exact S.apart x (by simp)
  · exact ha x hx
theorem BoxSt.root {m : Nat} (S : BoxSt w0 wr b vc (.slice (some ⟨g, 0, none⟩) m d) rvs h) (hm : h.rt.length = m) (x : Int) : BoxSt w0 (wr.setCell ⟨g, i, none⟩ (.int .i64 x)) b vc (.slice (some ⟨g, 0, none⟩) m d) rvs ⟨h.cs, h.rt.set i x⟩ := by
  subst hm
  exact S.into (v := .slice (some ⟨g, 0, none⟩) h.rt.length d) (by simp) rfl _ (S.own.root x) fun v hv => S.apart v (by simp [hv])
theorem BoxSt.data {n : Nat} (S : BoxSt w0 wr b (.slice (some ⟨g, 0, none⟩) n d) vr rvs h) (hn : h.cs.length = n) (hc : h.cs[k]? = some cl) (x : Int) : BoxSt w0 (wr.setCell ⟨g, k * 3 + 1, none⟩ (.int .i64 x)) b (.slice (some ⟨g, 0, none⟩) n d) vr rvs ⟨h.cs.set k ⟨cl.u, x, cl.r⟩, h.rt⟩ := by
  subst hn
  exact S.into (v := .slice (some ⟨g, 0, none⟩) h.cs.length d) (by simp) rfl _ (S.own.data hc x) fun v hv => S.apart v (by simp [hv])
theorem BoxSt.ref1 {m : Nat} (S : BoxSt w0 wr b vc vr rvs h) (hc : h.cs[k]? = some cl) (hv : rvs[k]? = some (.slice (some ⟨g, 0, none⟩) m d)) (hm : cl.r.length = m) (x : Int) : BoxSt w0 (wr.setCell ⟨g, i, none⟩ (.int .i64 x)) b vc vr rvs ⟨h.cs.set k ⟨cl.u, cl.d, cl.r.set i x⟩, h.rt⟩ := by
  subst hm
  exact S.into (v := .slice (some ⟨g, 0, none⟩) cl.r.length d) (by simp [List.mem_of_getElem? hv]) rfl _ (S.own.ref1 hc hv x) fun v hv => S.apart v (by simp [hv])
theorem BoxSt.snoc {v9 v8 : Value} (S : BoxSt w0 wr b vc vr rvs h) (hG : wr.grownBy w1 vc.ownBlock)
    (o9 : w1.ownsRow w0.heap.size 31 3 v9 (h.cs.length + 1) (flatC h.cs rvs ++ [.bool cl.u, .int .i64 cl.d, v8])) (q : v9.ownBlock = vc.ownBlock ∨ v9.ownBlock = some wr.heap.size)
    (o8 : OwnI wr w0.heap.size v8 cl.r) (hap : ∀ v ∈ vc :: vr :: rvs, v8.ownBlock = none ∨ v8.ownBlock ≠ v.ownBlock) (h8b : v8.ownBlock ≠ some b) :
    BoxSt w0 (w1.setCell ⟨b, 0, none⟩ v9) b v9 vr (rvs ++ [v8]) ⟨h.cs ++ [cl], h.rt⟩ := by
  have hn := S.own.snoc hG o9 q o8 hap
  have hlo := S.lo
  have hbl := S.box.lt
  have hvcb : some b ≠ vc.ownBlock := by
    rcases S.apart vc (by simp) with e | e
    · rw [e]; simp
    · exact fun h => e h.symm
  have ap : Apart (some b) (v9 :: vr :: (rvs ++ [v8])) := by
    intro v hv
    simp only [List.mem_cons, List.mem_append, List.not_mem_nil, or_false] at hv
    rcases hv with rfl | rfl | hv | rfl
    · right
      rcases q with e | e
      · rw [e]; exact fun h => hvcb h.symm
      · rw [e]; intro e'; injection e' with e'; omega
    · exact S.apart v (by simp)
    · exact S.apart v (by simp [hv])
    · exact .inr h8b
  refine ⟨hn.far (put_any w1 b 0 v9) ap, ap, (Rw.far S.box hG hvcb).put 0 v9, ?_, hlo⟩
  exact (S.low.grown hG S.low.size (fun kk hk => (S.own.blocks (v := vc) (by simp) hk).1)).setCell (p := ⟨b, 0, none⟩) (by show w0.heap.size ≤ b; omega) _
theorem BoxSt.cell {n : Nat} {rv : Value} {old : Cl} (S : BoxSt w0 wr b (.slice (some ⟨g, 0, none⟩) n c) vr rvs h) (hn : h.cs.length = n) (hc : h.cs[k]? = some old) (o : OwnI wr w0.heap.size rv cl.r) (hap : ∀ v ∈ (Value.slice (some ⟨g, 0, none⟩) n c) :: vr :: rvs, rv.ownBlock = none ∨ rv.ownBlock ≠ v.ownBlock) (h8b : rv.ownBlock = none ∨ rv.ownBlock ≠ some b) :
    BoxSt w0 (((wr.setCell ⟨g, k * 3, none⟩ (.bool cl.u)).setCell ⟨g, k * 3 + 1, none⟩ (.int .i64 cl.d)).setCell ⟨g, k * 3 + 2, none⟩ rv) b (.slice (some ⟨g, 0, none⟩) n c) vr (rvs.set k rv) ⟨h.cs.set k cl, h.rt⟩ := by
  subst hn
  have hm : (Value.slice (some ⟨g, 0, none⟩) h.cs.length c) ∈ (Value.slice (some ⟨g, 0, none⟩) h.cs.length c) :: vr :: rvs := by simp
  have h1 : w0.heap.size ≤ g ∧ g < wr.heap.size := S.own.blocks hm rfl
  have h2 : b ≠ g := by
    rcases S.apart _ hm with e | e
    · cases e
    · intro e'; exact e (by rw [e']; rfl)
  refine ⟨S.own.cell hc o hap, ?_, ((S.box.other h2 _).other h2 _).other h2 _, ?_, S.lo⟩
  · intro x hx
    simp only [List.mem_cons] at hx
    rcases hx with rfl | rfl | hx
    · exact S.apart _ (by simp)
    · exact S.apart x (by simp)
    · rcases List.mem_or_eq_of_mem_set hx with hx | rfl
      · exact S.apart x (by simp [hx])
      · exact h8b
  · exact ((S.low.setCell (p := ⟨g, k * 3, none⟩) (by show w0.heap.size ≤ g; omega) _).setCell (p := ⟨g, k * 3 + 1, none⟩) (by show w0.heap.size ≤ g; omega) _).setCell (p := ⟨g, k * 3 + 2, none⟩) (by show w0.heap.size ≤ g; omega) _
theorem BoxSt.ownH (S : BoxSt w0 wr b vc vr rvs h) : OwnH wr w0.heap.size vc vr h := ⟨rvs, S.own⟩
theorem BoxSt.of {w1 : World} (o : OwnH w1 w0.heap.size vc vr h) (hb : Below w0.heap.size w0 w1) : ∃ rvs, BoxSt w0 (w1.alloc (.cells #[vc, vr] 26)) w1.heap.size vc vr rvs h := by
  obtain ⟨rvs, own⟩ := o
  exact ⟨rvs, own.below ((Below.refl _ _).alloc (Nat.le_refl _) _) (Nat.le_refl _), own.apart_new (Nat.le_refl _), Rw.new _ _ _, hb.alloc hb.size _, hb.size⟩
end

set_option maxHeartbeats 4000000 in
theorem l11Drop_any (A R D : Option Addr) (n c m d e : Nat) (h : Hp) (bs : List Bool) (w : World) (hs : HS w w.heap.size A n R m h) (ho : OS w w.heap.size D n bs) (hn : n ≤ 1000000) (hm : m ≤ 1000000) (h3 : ∀ cl ∈ h.cs, cl.r.length ≤ 1000000) :
    Calls Try.prog 86 #[heapV A n c R m d, .slice D n e] w (GaveH w (Hps.dropH h bs)) := by
  have hlc := hs.cells.1
  have hlr := hs.roots.1
  have hlb := ho.1
  have b2 : Below w.heap.size w ((w.alloc (.cells #[.slice A n c, .slice R m d] 26)).alloc (.cells #[.slice none 0 0, .slice none 0 0] 26)) := ((Below.refl w.heap.size w).alloc (Nat.le_refl _) _).alloc (by simp) _
  have s2 := hs.up b2
  have q2 := Rw.new (w.alloc (.cells #[.slice A n c, .slice R m d] 26)) 26 #[.slice none 0 0, .slice none 0 0]
  simp only [World.size_alloc] at q2
  have q1 := (Rw.new w 26 #[.slice A n c, .slice R m d]).alloc (.cells #[.slice none 0 0, .slice none 0 0] 26)
  have hz : ((w.alloc (.cells #[.slice A n c, .slice R m d] 26)).alloc (.cells #[.slice none 0 0, .slice none 0 0] 26)).heap.size = w.heap.size + 1 + 1 := by simp
  go_enter Try.func86, Try.ntmps86
  go_upto_region 1 with fail
  generalize (w.alloc (.cells #[.slice A n c, .slice R m d] 26)).alloc (.cells #[.slice none 0 0, .slice none 0 0] 26) = w0 at b2 s2 q1 q2 hz ⊢
  have HZ := Lib.hid hz
  clear hz
  have y0 : w0.cell? ⟨w.heap.size, 0, none⟩ = some (.slice A n c) := q1.cell 0
  have y1 : w0.cell? ⟨w.heap.size, 1, none⟩ = some (.slice R m d) := q1.cell 1
  go_wp2_with fail
  clear y0 y1 q1
  refine (l7Copy_any _ _ _ _ _ _ h _ s2 hn hm h3).mono ?_
  rintro e w1 ⟨vc, vr, rfl, oh, b1⟩
  obtain ⟨rvs, S0⟩ := BoxSt.of oh b1
  obtain ⟨Ac, cc, Rc, dc, rfl, rfl, -⟩ := oh.form
  rw [hlc, hlr] at S0 ⊢
  clear oh b1 s2 h3
  go_upto_region 2 with fail
  generalize w1.alloc (.cells #[.slice Ac n cc, .slice Rc m dc] 26) = w3 at S0 ⊢
  generalize w1.heap.size = b at S0 ⊢
  clear w1
  have HLC := Lib.hid hlc
  have HLB := Lib.hid hlb
  clear hlc hlb hlr
  go_wp2_with fail
  go_loopw [6] (fun i wr => ∃ (k : Nat) (rvs : List Value), k ≤ n ∧ i = .int .i64 k ∧ BoxSt w0 wr b (.slice Ac n cc) (.slice Rc m dc) rvs ⟨Hps.dropL h.cs (bs.take k), h.rt⟩) (fun i _ => n - (intOf i).toNat)
  case atStart => exact ⟨0, rvs, by omega, rfl, by rw [List.take_zero, Hps.dropL_nil]; exact S0⟩
  case round =>
    clear S0 rvs
    obtain ⟨k, rvs, hk, rfl, S⟩ := hrel
    have bw := b2.trans (S.low.mono b2.size)
    have x0 : wr.cell? ⟨b, 0, none⟩ = some (.slice Ac n cc) := S.box.cell 0
    have x1 : wr.cell? ⟨b, 1, none⟩ = some (.slice Rc m dc) := S.box.cell 1
    by_cases hlt : k < n
    · obtain ⟨g, o, bl, rfl, hg, hbl, c1⟩ := (ho.below bw).at_ hlt
      have hlt' : (k : Int) < n := by omega
      have hkl : k < h.cs.length := by rw [HLC.out]; exact hlt
      have HS := Lib.hid (Hps.dropL_succ hbl hkl)
      cases bl
      · clear hbl hkl
        have HS' := HS.out
        rw [if_neg (by simp)] at HS'
        have HS2 := Lib.hid HS'
        clear HS' HS
        go_wp2_with fail
        go_roundw
        case rel => exact ⟨k + 1, rvs, by omega, by go_num, by rw [HS2.out]; exact S⟩
        case measure => simp [intOf]; omega
      · have HS' := HS.out
        rw [if_pos rfl] at HS'
        have HS2 := Lib.hid HS'
        have hdl : (Hps.dropL h.cs (bs.take k)).length = n := by rw [Hps.dropL_len]; exact HLC.out
        obtain ⟨old, hold⟩ : ∃ old, (Hps.dropL h.cs (bs.take k))[k]? = some old := ⟨_, List.getElem?_eq_getElem (show k < _ by rw [hdl]; exact hlt)⟩
        obtain ⟨gc, v, e4, hgc1, hgc2, -, -, y0, y1, y2, fz⟩ := S.own.cell_at hold
        subst e4
        have f0 := fz (k * 3)
        have f1 := fz (k * 3 + 1)
        have f2 := fz (k * 3 + 2)
        have SN := S.cell (cl := Hps.zeroCl) (rv := .slice none 0 0) hdl hold (World.ownsRow_nil _ _ _ _) (fun _ _ => .inl rfl) (.inl rfl)
        rw [← HS2.out] at SN
        have SH := Lib.hid SN
        clear hbl hkl hold hdl S SN HS HS' HS2 fz
        go_wp2_with fail
        go_roundw
        case rel => exact ⟨k + 1, _, by omega, by go_num, SH.out⟩
        case measure => simp [intOf]; omega
    · obtain rfl : k = n := by omega
      have HE := Lib.hid (show Hps.dropL h.cs (bs.take k) = Hps.dropL h.cs bs by rw [List.take_of_length_le (by rw [HLB.out]; omega)])
      have q3 := q2.keep S.low q2.lt
      have r2 : wr.frozen? ⟨w.heap.size + 1, 0, none⟩ = false := q3.frozen 0
      have r3 : wr.frozen? ⟨w.heap.size + 1, 1, none⟩ = false := q3.frozen 1
      have r4 : wr.cell? ⟨w.heap.size + 1, 0, none⟩ = some (.slice none 0 0) := q3.cell 0
      have r5 : wr.cell? ⟨w.heap.size + 1, 1, none⟩ = some (.slice none 0 0) := q3.cell 1
      have r6 : ((wr.setCell ⟨w.heap.size + 1, 0, none⟩ (.slice Ac k cc)).setCell ⟨w.heap.size + 1, 1, none⟩ (.slice Rc m dc)).cell? ⟨w.heap.size + 1, 0, none⟩ = some (.slice Ac k cc) := ((q3.put 0 (.slice Ac k cc)).put 1 (.slice Rc m dc)).cell 0
      have r7 : ((wr.setCell ⟨w.heap.size + 1, 0, none⟩ (.slice Ac k cc)).setCell ⟨w.heap.size + 1, 1, none⟩ (.slice Rc m dc)).cell? ⟨w.heap.size + 1, 1, none⟩ = some (.slice Rc m dc) := ((q3.put 0 (.slice Ac k cc)).put 1 (.slice Rc m dc)).cell 1
      have D := Lib.hid (S.ownH.out (w := w) (g := w.heap.size + 1) q2.lt bw (by omega))
      clear S q2 q3
      go_wp2_with fail
      exact bodyPost_ret (v := .agg #[.slice Ac k cc, .slice Rc m dc]) (by simp [results, Try.results86, go_sem, *]) rfl ⟨_, _, rfl, by rw [Hps.dropH, ← HE.out]; exact D.out.1, D.out.2⟩
end Go.Proofs.Ytkdoolilggkjpaa
