/- A heap of a call's own in a box, while it is written into: and the model's l11Drop. No conditions. What the model's SweepCells and CollectSweep return: for every heap and all marks. No conditions. What the model's CollectSweep returns: for every heap. No conditions. -/
import Derived.Test.YtakdjiojahlnmaaKg
import Derived.Test.YtakdjiojahlnmaaHf
namespace Go.Proofs.Ytakdjiojahlnmaa
open Go.RowKit
set_option maxRecDepth 100000

/-- a heap of the call's own in the box b; what was there before the world w0 is as it was -/
structure BoxSt (w0 wr : World) (b : Nat) (vc vr : Value) (rvs : List Value) (h : Hp) : Prop where
  own : OwnHx wr w0.heap.size vc vr rvs h
  apart : Apart (some b) (vc :: vr :: rvs)
  box : Rw wr b 26 #[vc, vr]
  low : Below w0.heap.size w0 wr
  lo : w0.heap.size ≤ b
section
variable {w0 wr w1 : World} {b g c d i k : Nat} {vc vr : Value} {rvs : List Value} {h : Hp} {cl : Cl}
theorem BoxSt.up (S : BoxSt w0 wr b vc vr rvs h) (hw : Below wr.heap.size wr w1) : BoxSt w0 w1 b vc vr rvs h :=
  ⟨S.own.below hw (Nat.le_refl _), S.apart, S.box.keep hw S.box.lt, S.low.trans (hw.mono S.low.size), S.lo⟩
theorem BoxSt.drew (S : BoxSt w0 wr b vc vr rvs h) : BoxSt w0 wr.drew b vc vr rvs h := S.up (Below.refl _ _).drew
theorem BoxSt.into (S : BoxSt w0 wr b vc vr rvs h) {v : Value} (hv : v ∈ vc :: vr :: rvs) (hg : v.ownBlock = some g) {rvs' : List Value} {h' : Hp} (u : Value)
    (ho : OwnHx (wr.setCell ⟨g, i, none⟩ u) w0.heap.size vc vr rvs' h') (ha : ∀ v ∈ rvs', v.ownBlock = none ∨ v.ownBlock ≠ some b) : BoxSt w0 (wr.setCell ⟨g, i, none⟩ u) b vc vr rvs' h' := by
  have h1 := S.own.blocks hv hg
  have h2 : b ≠ g := by
    rcases S.apart v hv with e | e
    · rw [hg] at e; cases e
    · intro e'; rw [hg] at e; exact e (by rw [e'])
  refine ⟨ho, ?_, S.box.other h2 u, S.low.setCell (p := ⟨g, i, none⟩) (by show w0.heap.size ≤ g; omega) u, S.lo⟩
  intro x hx
  simp only [List.mem_cons] at hx
  rcases hx with rfl | rfl | hx
  · exact S.apart x (by simp)
  · exact S.apart x (by simp)
  · exact ha x hx
theorem BoxSt.root {m : Nat} (S : BoxSt w0 wr b vc (.slice (some ⟨g, 0, none⟩) m d) rvs h) (hm : h.rt.length = m) (x : Int) : BoxSt w0 (wr.setCell ⟨g, i, none⟩ (.int .i64 x)) b vc (.slice (some ⟨g, 0, none⟩) m d) rvs ⟨h.cs, h.rt.set i x⟩ := by
  subst hm
  exact S.into (v := .slice (some ⟨g, 0, none⟩) h.rt.length d) (by simp) rfl _ (S.own.root x) fun v hv => S.apart v (by simp [hv])
theorem BoxSt.data {n : Nat} (S : BoxSt w0 wr b (.slice (some ⟨g, 0, none⟩) n d) vr rvs h) (hn : h.cs.length = n) (hc : h.cs[k]? = some cl) (x : Int) : BoxSt w0 (wr.setCell ⟨g, k * 3 + 1, none⟩ (.int .i64 x)) b (.slice (some ⟨g, 0, none⟩) n d) vr rvs ⟨h.cs.set k ⟨cl.u, x, cl.r⟩, h.rt⟩ := by
  subst hn
  exact S.into (v := .slice (some ⟨g, 0, none⟩) h.cs.length d) (by simp) rfl _ (S.own.data hc x) fun v hv => S.apart v (by simp [hv])
theorem BoxSt.ref1 {m : Nat} (S : BoxSt w0 wr b vc vr rvs h) (hc : h.cs[k]? = some cl) (hv : rvs[k]? = some (.slice (some ⟨g, 0, none⟩) m d)) (hm : cl.r.length = m) (x : Int) : BoxSt w0 (wr.setCell ⟨g, i, none⟩ (.int .i64 x)) b vc vr rvs ⟨h.cs.set k ⟨cl.u, cl.d, cl.r.set i x⟩, h.rt⟩ := by
  subst hm
  exact S.into (v := .slice (some ⟨g, 0, none⟩) cl.r.length d) (by simp [List.mem_of_getElem? hv]) rfl _ (S.own.ref1 hc hv x) fun v hv => S.apart v (by simp [hv])
theorem BoxSt.snoc {v9 v8 : Value} (S : BoxSt w0 wr b vc vr rvs h) (hG : wr.grownBy w1 vc.ownBlock)
    (o9 : w1.ownsRow w0.heap.size 45 3 v9 (h.cs.length + 1) (flatC h.cs rvs ++ [.bool cl.u, .int .i64 cl.d, v8])) (q : v9.ownBlock = vc.ownBlock ∨ v9.ownBlock = some wr.heap.size)
    (o8 : OwnI wr w0.heap.size v8 cl.r) (hap : ∀ v ∈ vc :: vr :: rvs, v8.ownBlock = none ∨ v8.ownBlock ≠ v.ownBlock) (h8b : v8.ownBlock ≠ some b) :
    BoxSt w0 (w1.setCell ⟨b, 0, none⟩ v9) b v9 vr (rvs ++ [v8]) ⟨h.cs ++ [cl], h.rt⟩ := by
  have hn := S.own.snoc hG o9 q o8 hap
  have hlo := S.lo
  have hbl := S.box.lt
  have hvcb : some b ≠ vc.ownBlock := by
    rcases S.apart vc (by simp) with e | e
    · rw [e]; simp
    · exact fun h => e h.symm
  have ap : Apart (some b) (v9 :: vr :: (rvs ++ [v8])) := by
    intro v hv
    simp only [List.mem_cons, List.mem_append, List.not_mem_nil, or_false] at hv
    rcases hv with rfl | rfl | hv | rfl
    · right
      rcases q with e | e
      · rw [e]; exact fun h => hvcb h.symm
      · rw [e]; intro e'; injection e' with e'; omega
    · exact S.apart v (by simp)
    · exact S.apart v (by simp [hv])
    · exact .inr h8b
  refine ⟨hn.far (put_any w1 b 0 v9) ap, ap, (Rw.far S.box hG hvcb).put 0 v9, ?_, hlo⟩
  exact (S.low.grown hG S.low.size (fun kk hk => (S.own.blocks (v := vc) (by simp) hk).1)).setCell (p := ⟨b, 0, none⟩) (by show w0.heap.size ≤ b; omega) _
theorem BoxSt.cell {n : Nat} {rv : Value} {old : Cl} (S : BoxSt w0 wr b (.slice (some ⟨g, 0, none⟩) n c) vr rvs h) (hn : h.cs.length = n) (hc : h.cs[k]? = some old) (o : OwnI wr w0.heap.size rv cl.r) (hap : ∀ v ∈ (Value.slice (some ⟨g, 0, none⟩) n c) :: vr :: rvs, rv.ownBlock = none ∨ rv.ownBlock ≠ v.ownBlock) (h8b : rv.ownBlock = none ∨ rv.ownBlock ≠ some b) :
    BoxSt w0 (((wr.setCell ⟨g, k * 3, none⟩ (.bool cl.u)).setCell ⟨g, k * 3 + 1, none⟩ (.int .i64 cl.d)).setCell ⟨g, k * 3 + 2, none⟩ rv) b (.slice (some ⟨g, 0, none⟩) n c) vr (rvs.set k rv) ⟨h.cs.set k cl, h.rt⟩ := by
  subst hn
  have hm : (Value.slice (some ⟨g, 0, none⟩) h.cs.length c) ∈ (Value.slice (some ⟨g, 0, none⟩) h.cs.length c) :: vr :: rvs := by simp
  have h1 : w0.heap.size ≤ g ∧ g < wr.heap.size := S.own.blocks hm rfl
  have h2 : b ≠ g := by
    rcases S.apart _ hm with e | e
    · cases e
    · intro e'; exact e (by rw [e']; rfl)
  refine ⟨S.own.cell hc o hap, ?_, ((S.box.other h2 _).other h2 _).other h2 _, ?_, S.lo⟩
  · intro x hx
    simp only [List.mem_cons] at hx
    rcases hx with rfl | rfl | hx
    · exact S.apart _ (by simp)
    · exact S.apart x (by simp)
    · rcases List.mem_or_eq_of_mem_set hx with hx | rfl
      · exact S.apart x (by simp [hx])
      · exact h8b
  · exact ((S.low.setCell (p := ⟨g, k * 3, none⟩) (by show w0.heap.size ≤ g; omega) _).setCell (p := ⟨g, k * 3 + 1, none⟩) (by show w0.heap.size ≤ g; omega) _).setCell (p := ⟨g, k * 3 + 2, none⟩) (by show w0.heap.size ≤ g; omega) _
theorem BoxSt.ownH (S : BoxSt w0 wr b vc vr rvs h) : OwnH wr w0.heap.size vc vr h := ⟨rvs, S.own⟩
theorem BoxSt.of {w1 : World} (o : OwnH w1 w0.heap.size vc vr h) (hb : Below w0.heap.size w0 w1) : ∃ rvs, BoxSt w0 (w1.alloc (.cells #[vc, vr] 26)) w1.heap.size vc vr rvs h := by
  obtain ⟨rvs, own⟩ := o
  exact ⟨rvs, own.below ((Below.refl _ _).alloc (Nat.le_refl _) _) (Nat.le_refl _), own.apart_new (Nat.le_refl _), Rw.new _ _ _, hb.alloc hb.size _, hb.size⟩
end

set_option maxHeartbeats 4000000 in
theorem l11Drop_any (A R D : Option Addr) (n c m d e : Nat) (h : Hp) (bs : List Bool) (w : World) (hs : HS w w.heap.size A n R m h) (ho : OS w w.heap.size D n bs) (hn : n ≤ 1000000) (hm : m ≤ 1000000) (h3 : ∀ cl ∈ h.cs, cl.r.length ≤ 1000000) :
    Calls Try.prog 109 #[heapV A n c R m d, .slice D n e] w (GaveH w (Hps.dropH h bs)) := by
  have hlc := hs.cells.1
  have hlr := hs.roots.1
  have hlb := ho.1
  have b2 : Below w.heap.size w ((w.alloc (.cells #[.slice A n c, .slice R m d] 26)).alloc (.cells #[.slice none 0 0, .slice none 0 0] 26)) := ((Below.refl w.heap.size w).alloc (Nat.le_refl _) _).alloc (by simp) _
  have s2 := hs.up b2
  have q2 := Rw.new (w.alloc (.cells #[.slice A n c, .slice R m d] 26)) 26 #[.slice none 0 0, .slice none 0 0]
  simp only [World.size_alloc] at q2
  have q1 := (Rw.new w 26 #[.slice A n c, .slice R m d]).alloc (.cells #[.slice none 0 0, .slice none 0 0] 26)
  have hz : ((w.alloc (.cells #[.slice A n c, .slice R m d] 26)).alloc (.cells #[.slice none 0 0, .slice none 0 0] 26)).heap.size = w.heap.size + 1 + 1 := by simp
  go_enter Try.func109, Try.ntmps109
  go_upto_region 1 with fail
  generalize (w.alloc (.cells #[.slice A n c, .slice R m d] 26)).alloc (.cells #[.slice none 0 0, .slice none 0 0] 26) = w0 at b2 s2 q1 q2 hz ⊢
  have HZ := Lib.hid hz
  clear hz
  have y0 : w0.cell? ⟨w.heap.size, 0, none⟩ = some (.slice A n c) := q1.cell 0
  have y1 : w0.cell? ⟨w.heap.size, 1, none⟩ = some (.slice R m d) := q1.cell 1
  go_wp2_with fail
  clear y0 y1 q1
  refine (l7Copy_any _ _ _ _ _ _ h _ s2 hn hm h3).mono ?_
  rintro e w1 ⟨vc, vr, rfl, oh, b1⟩
  obtain ⟨rvs, S0⟩ := BoxSt.of oh b1
  obtain ⟨Ac, cc, Rc, dc, rfl, rfl, -⟩ := oh.form
  rw [hlc, hlr] at S0 ⊢
  clear oh b1 s2 h3
  go_upto_region 2 with fail
  generalize w1.alloc (.cells #[.slice Ac n cc, .slice Rc m dc] 26) = w3 at S0 ⊢
  generalize w1.heap.size = b at S0 ⊢
  clear w1
  have HLC := Lib.hid hlc
  have HLB := Lib.hid hlb
  clear hlc hlb hlr
  go_wp2_with fail
  go_loopw [6] (fun i wr => ∃ (k : Nat) (rvs : List Value), k ≤ n ∧ i = .int .i64 k ∧ BoxSt w0 wr b (.slice Ac n cc) (.slice Rc m dc) rvs ⟨Hps.dropL h.cs (bs.take k), h.rt⟩) (fun i _ => n - (intOf i).toNat)
  case atStart => exact ⟨0, rvs, by omega, rfl, by rw [List.take_zero, Hps.dropL_nil]; exact S0⟩
  case round =>
    clear S0 rvs
    obtain ⟨k, rvs, hk, rfl, S⟩ := hrel
    have bw := b2.trans (S.low.mono b2.size)
    have x0 : wr.cell? ⟨b, 0, none⟩ = some (.slice Ac n cc) := S.box.cell 0
    have x1 : wr.cell? ⟨b, 1, none⟩ = some (.slice Rc m dc) := S.box.cell 1
    by_cases hlt : k < n
    · obtain ⟨g, o, bl, rfl, hg, hbl, c1⟩ := (ho.below bw).at_ hlt
      have hlt' : (k : Int) < n := by omega
      have hkl : k < h.cs.length := by rw [HLC.out]; exact hlt
      have HS := Lib.hid (Hps.dropL_succ hbl hkl)
      cases bl
      · clear hbl hkl
        have HS' := HS.out
        rw [if_neg (by simp)] at HS'
        have HS2 := Lib.hid HS'
        clear HS' HS
        go_wp2_with fail
        go_roundw
        case rel => exact ⟨k + 1, rvs, by omega, by go_num, by rw [HS2.out]; exact S⟩
        case measure => simp [intOf]; omega
      · have HS' := HS.out
        rw [if_pos rfl] at HS'
        have HS2 := Lib.hid HS'
        have hdl : (Hps.dropL h.cs (bs.take k)).length = n := by rw [Hps.dropL_len]; exact HLC.out
        obtain ⟨old, hold⟩ : ∃ old, (Hps.dropL h.cs (bs.take k))[k]? = some old := ⟨_, List.getElem?_eq_getElem (show k < _ by rw [hdl]; exact hlt)⟩
        obtain ⟨gc, v, e4, hgc1, hgc2, -, -, y0, y1, y2, fz⟩ := S.own.cell_at hold
        subst e4
        have f0 := fz (k * 3)
        have f1 := fz (k * 3 + 1)
        have f2 := fz (k * 3 + 2)
        have SN := S.cell (cl := Hps.zeroCl) (rv := .slice none 0 0) hdl hold (World.ownsRow_nil _ _ _ _) (fun _ _ => .inl rfl) (.inl rfl)
        rw [← HS2.out] at SN
        have SH := Lib.hid SN
        clear hbl hkl hold hdl S SN HS HS' HS2 fz
        go_wp2_with fail
        go_roundw
        case rel => exact ⟨k + 1, _, by omega, by go_num, SH.out⟩
        case measure => simp [intOf]; omega
    · obtain rfl : k = n := by omega
      have HE := Lib.hid (show Hps.dropL h.cs (bs.take k) = Hps.dropL h.cs bs by rw [List.take_of_length_le (by rw [HLB.out]; omega)])
      have q3 := q2.keep S.low q2.lt
      have r2 : wr.frozen? ⟨w.heap.size + 1, 0, none⟩ = false := q3.frozen 0
      have r3 : wr.frozen? ⟨w.heap.size + 1, 1, none⟩ = false := q3.frozen 1
      have r4 : wr.cell? ⟨w.heap.size + 1, 0, none⟩ = some (.slice none 0 0) := q3.cell 0
      have r5 : wr.cell? ⟨w.heap.size + 1, 1, none⟩ = some (.slice none 0 0) := q3.cell 1
      have r6 : ((wr.setCell ⟨w.heap.size + 1, 0, none⟩ (.slice Ac k cc)).setCell ⟨w.heap.size + 1, 1, none⟩ (.slice Rc m dc)).cell? ⟨w.heap.size + 1, 0, none⟩ = some (.slice Ac k cc) := ((q3.put 0 (.slice Ac k cc)).put 1 (.slice Rc m dc)).cell 0
      have r7 : ((wr.setCell ⟨w.heap.size + 1, 0, none⟩ (.slice Ac k cc)).setCell ⟨w.heap.size + 1, 1, none⟩ (.slice Rc m dc)).cell? ⟨w.heap.size + 1, 1, none⟩ = some (.slice Rc m dc) := ((q3.put 0 (.slice Ac k cc)).put 1 (.slice Rc m dc)).cell 1
      have D := Lib.hid (S.ownH.out (w := w) (g := w.heap.size + 1) q2.lt bw (by omega))
      clear S q2 q3
      go_wp2_with fail
      exact bodyPost_ret (v := .agg #[.slice Ac k cc, .slice Rc m dc]) (by simp [results, Try.results109, go_sem, *]) rfl ⟨_, _, rfl, by rw [Hps.dropH, ← HE.out]; exact D.out.1, D.out.2⟩
end Go.Proofs.Ytakdjiojahlnmaa

namespace Go.Proofs.Ytakdjiojahlnmaa
open Go.RowKit
set_option maxRecDepth 100000

/-- a heap of the call's own, and a number -/
def GaveHN (w : World) (h : Hp) (k : Int) (e : Ending) (w' : World) : Prop := ∃ vc vr, e = .returned (.tuple #[.agg #[vc, vr], .int .i64 k]) ∧ OwnH w' w.heap.size vc vr h ∧ Below w.heap.size w w'
namespace Hps
theorem sweepH_no {h : Hp} {bs : List Bool} (e : validH h = false ∨ bs.length ≠ h.cs.length) : sweepH h bs = (zeroH, -1) := by
  unfold sweepH
  rcases e with e | e <;> simp [e]
theorem sweepH_bad {h : Hp} {bs : List Bool} (h1 : validH h = true) (h2 : bs.length = h.cs.length) (h3 : validH (dropH h (bs.map (!·))) = false) : sweepH h bs = (zeroH, -1) := by simp [sweepH, h1, h2, h3]
theorem sweepH_ok {h : Hp} {bs : List Bool} (h1 : validH h = true) (h2 : bs.length = h.cs.length) (h3 : validH (dropH h (bs.map (!·))) = true) : sweepH h bs = (dropH h (bs.map (!·)), (freedTo h.cs bs h.cs.length : Int)) := by simp [sweepH, h1, h2, h3]
theorem freedTo_kept {cs : List Cl} {bs : List Bool} {k : Nat} (h : bs[k]? = some true) : freedTo cs bs (k + 1) = freedTo cs bs k := by simp [freedTo, h]
theorem freedTo_free {cs : List Cl} {bs : List Bool} {k : Nat} {c : Cl} (h : bs[k]? = some false) (hc : cs[k]? = some c) : freedTo cs bs (k + 1) = freedTo cs bs k + (if c.u = true then 1 else 0) := by
  have : usedAt cs k = c.u := by simp [usedAt, hc]
  simp [freedTo, h, this]
theorem not_succ {bs : List Bool} {k : Nat} {b : Bool} (h : bs[k]? = some b) : (bs.take (k + 1)).map (!·) = (bs.take k).map (!·) ++ [!b] := by
  rw [List.take_add_one, h]
  simp
end Hps

set_option maxHeartbeats 4000000 in
theorem mSweepCells_any (A R D : Option Addr) (n c m d q e : Nat) (h : Hp) (bs : List Bool) (w : World) (hs : HS w w.heap.size A n R m h) (ho : OS w w.heap.size D q bs) (hn : n ≤ 1099511627776) (hm : m ≤ 1099511627776) (hq : q ≤ 1099511627776) :
    Calls Try.prog 102 #[heapV A n c R m d, .slice D q e] w (GaveHN w (Hps.sweepH h bs).1 (Hps.sweepH h bs).2) := by
  have hlc := hs.cells.1
  have hlr := hs.roots.1
  have hlb := ho.1
  have b2 : Below w.heap.size w ((w.alloc (.cells #[.slice A n c, .slice R m d] 26)).alloc (.cells #[.slice none 0 0, .slice none 0 0] 26)) := ((Below.refl w.heap.size w).alloc (Nat.le_refl _) _).alloc (by simp) _
  have s2 := hs.up b2
  have q3 := Rw.new (w.alloc (.cells #[.slice A n c, .slice R m d] 26)) 26 #[.slice none 0 0, .slice none 0 0]
  simp only [World.size_alloc] at q3
  have q1 := (Rw.new w 26 #[.slice A n c, .slice R m d]).alloc (.cells #[.slice none 0 0, .slice none 0 0] 26)
  go_enter Try.func102, Try.ntmps102
  go_wp2_with fail
  refine (mHeapValid_any _ _ _ _ _ _ h _ s2 hn hm).mono ?_
  rintro e w1 ⟨rfl, b1⟩
  replace q1 := q1.keep b1 q1.lt
  replace q3 := q3.keep b1 q3.lt
  replace b2 := b2.trans (b1.mono b2.size)
  have hG : w.heap.size + 1 < w1.heap.size := q3.lt
  clear b1 s2
  cases hv : Hps.validH h
  · have HF := Lib.hid (Hps.sweepH_no (bs := bs) (.inl hv))
    have r2 : (w1).frozen? ⟨w.heap.size + 1, 0, none⟩ = false := q3.frozen 0
    have r3 : (w1).frozen? ⟨w.heap.size + 1, 1, none⟩ = false := q3.frozen 1
    have r4 : (w1).cell? ⟨w.heap.size + 1, 0, none⟩ = some (.slice none 0 0) := q3.cell 0
    have r5 : (w1).cell? ⟨w.heap.size + 1, 1, none⟩ = some (.slice none 0 0) := q3.cell 1
    have r6 : (((w1).setCell ⟨w.heap.size + 1, 0, none⟩ (.slice none 0 0)).setCell ⟨w.heap.size + 1, 1, none⟩ (.slice none 0 0)).cell? ⟨w.heap.size + 1, 0, none⟩ = some (.slice none 0 0) := ((q3.put 0 (.slice none 0 0)).put 1 (.slice none 0 0)).cell 0
    have r7 : (((w1).setCell ⟨w.heap.size + 1, 0, none⟩ (.slice none 0 0)).setCell ⟨w.heap.size + 1, 1, none⟩ (.slice none 0 0)).cell? ⟨w.heap.size + 1, 1, none⟩ = some (.slice none 0 0) := ((q3.put 0 (.slice none 0 0)).put 1 (.slice none 0 0)).cell 1
    have D := Lib.hid ((own_zeroH (w1) (w1).heap.size (Nat.le_refl _)).out (w := w) (g := w.heap.size + 1) q3.lt b2 (by omega))
    clear q1 q3 b2 hv
    go_wp2_with fail
    exact bodyPost_ret (v := .tuple #[.agg #[.slice none 0 0, .slice none 0 0], .int .i64 (-1)]) (by simp [results, Try.results102, go_sem, *]) rfl ⟨_, _, by rw [HF.out], by rw [HF.out]; exact D.out.1, D.out.2⟩
  have x0 : w1.cell? ⟨w.heap.size, 0, none⟩ = some (.slice A n c) := q1.cell 0
  have x1 : w1.cell? ⟨w.heap.size, 1, none⟩ = some (.slice R m d) := q1.cell 1
  by_cases hqn : q = n
  case neg =>
    have HF := Lib.hid (Hps.sweepH_no (h := h) (bs := bs) (.inr (by rw [hlb, hlc]; exact hqn)))
    have hne : ((q : Int) != n) = true := by rw [bne_iff_ne]; omega
    have r2 : (w1).frozen? ⟨w.heap.size + 1, 0, none⟩ = false := q3.frozen 0
    have r3 : (w1).frozen? ⟨w.heap.size + 1, 1, none⟩ = false := q3.frozen 1
    have r4 : (w1).cell? ⟨w.heap.size + 1, 0, none⟩ = some (.slice none 0 0) := q3.cell 0
    have r5 : (w1).cell? ⟨w.heap.size + 1, 1, none⟩ = some (.slice none 0 0) := q3.cell 1
    have r6 : (((w1).setCell ⟨w.heap.size + 1, 0, none⟩ (.slice none 0 0)).setCell ⟨w.heap.size + 1, 1, none⟩ (.slice none 0 0)).cell? ⟨w.heap.size + 1, 0, none⟩ = some (.slice none 0 0) := ((q3.put 0 (.slice none 0 0)).put 1 (.slice none 0 0)).cell 0
    have r7 : (((w1).setCell ⟨w.heap.size + 1, 0, none⟩ (.slice none 0 0)).setCell ⟨w.heap.size + 1, 1, none⟩ (.slice none 0 0)).cell? ⟨w.heap.size + 1, 1, none⟩ = some (.slice none 0 0) := ((q3.put 0 (.slice none 0 0)).put 1 (.slice none 0 0)).cell 1
    have D := Lib.hid ((own_zeroH (w1) (w1).heap.size (Nat.le_refl _)).out (w := w) (g := w.heap.size + 1) q3.lt b2 (by omega))
    clear q1 q3 b2 hv hqn
    go_wp2_with fail
    exact bodyPost_ret (v := .tuple #[.agg #[.slice none 0 0, .slice none 0 0], .int .i64 (-1)]) (by simp [results, Try.results102, go_sem, *]) rfl ⟨_, _, by rw [HF.out], by rw [HF.out]; exact D.out.1, D.out.2⟩
  subst hqn
  have hn40 : q ≤ 40 := by rw [← hlc]; exact (Hps.valid_iff.1 hv).2.1
  have hm4 : m = 4 := by rw [← hlr]; exact (Hps.valid_iff.1 hv).2.2.1
  have H3 := Lib.hid (fun cl (hcl : cl ∈ h.cs) => show cl.r.length ≤ 1000000 by have := (Hps.okCell_iff.1 ((Hps.valid_iff.1 hv).1 cl hcl)).2.2.1; omega)
  have HLB := Lib.hid (show bs.length = h.cs.length by rw [hlb, hlc])
  have HLC := Lib.hid hlc
  have HB := Lib.hid hlb
  have HV := Lib.hid hv
  have HM := Lib.hid hm4
  have o0 := own_noneO w1 w1.heap.size (Nat.le_refl _)
  have e0 : Below w1.heap.size w1 (w1.alloc (.cells #[] 4)) := (Below.refl _ _).alloc (Nat.le_refl _) _
  clear hlb hlc hlr hv hm4
  go_wp2_with fail
  go_loopw [6, 7, 8] (fun v f i wr => ∃ k : Nat, k ≤ q ∧ i = .int .i64 k ∧ f = .int .i64 (Hps.freedTo h.cs bs k) ∧ OwnO wr w1.heap.size v ((bs.take k).map (!·)) ∧ Below w1.heap.size w1 wr) (fun _ _ i _ => q - (intOf i).toNat)
  case atStart => exact ⟨0, by omega, rfl, rfl, by rw [List.take_zero]; exact o0, e0⟩
  case round =>
    clear o0 e0
    obtain ⟨k, hk, rfl, rfl, ow, bb⟩ := hrel
    have bw := b2.trans (bb.mono b2.size)
    have x0' : wr.cell? ⟨w.heap.size, 0, none⟩ = some (.slice A q c) := (q1.keep bb q1.lt).cell 0
    have x1' : wr.cell? ⟨w.heap.size, 1, none⟩ = some (.slice R m d) := (q1.keep bb q1.lt).cell 1
    obtain ⟨Av, cv, e1, -⟩ := ow.form
    have hlen : ((bs.take k).map (!·)).length = k := by rw [List.length_map, List.length_take, HB.out]; omega
    rw [hlen] at e1
    subst e1
    have hfl := Hps.freedTo_le h.cs bs k
    by_cases hlt : k < q
    · obtain ⟨g, o, bl, rfl, hg, hbl, c1⟩ := (ho.below bw).at_ hlt
      obtain ⟨g2, o2, cl, A', m', cc, rfl, hg2, hcl, d1, d2, d3, -, -⟩ := (hs.cells.below bw).at_ hlt
      have hlt' : (k : Int) < q := by omega
      have HN := Lib.hid (Hps.not_succ hbl)
      have ow2 := World.ownsRow.alloc ow (.cells #[.bool (!bl)] 4)
      have rr : OS (wr.alloc (.cells #[.bool (!bl)] 4)) (wr.alloc (.cells #[.bool (!bl)] 4)).heap.size (some ⟨wr.heap.size, 0, none⟩) 1 [!bl] := (own_oneO wr (!bl) 0 (Nat.zero_le _)).reads
      have bsz := bb.size
      have WB := Lib.hid (fun (w5 : World) (g5 : (wr.alloc (.cells #[.bool (!bl)] 4)).grownBy w5 (Value.slice Av k cv).ownBlock) => show Below w1.heap.size w1 w5 from (bb.alloc bb.size _).grown g5 (by simp; omega) (fun kk hk => (World.ownsRow.lt ow kk hk).1))
      have hgw := Nat.lt_of_lt_of_le hg (b2.size)
      have hgw2 := Nat.lt_of_lt_of_le hg2 (b2.size)
      have hq1 := q1.lt
      cases bl
      · have HFR := Lib.hid (Hps.freedTo_free hbl hcl)
        have y1 : w1.cell? ⟨g, o + k, none⟩ = some (.bool false) := (bb.cell (p := ⟨g, o + k, none⟩) hgw).symm.trans c1
        have y2 : w1.cell? ⟨g2, o2 + k * 3, none⟩ = some (.bool cl.u) := (bb.cell (p := ⟨g2, o2 + k * 3, none⟩) hgw2).symm.trans d1
        clear hbl hcl d2 d3 ow
        simp only [Bool.not_false] at ow2 rr WB HN
        cases hu : cl.u
        · rw [hu] at HFR d1 y2
          simp only [Bool.false_eq_true, if_false, Nat.add_zero] at HFR
          go_wp2_with (at_builtin; refine wpList_appendO rfl (.tmp 29) (.tmp 35) rfl w1.heap.size _ ((bs.take k).map (!·)) rfl ow2 (some ⟨wr.heap.size, 0, none⟩) 1 1 _ [true] rfl rr (by rw [hlen]; omega) (by simp; omega) ?_; intro v5 w5 o5 g5 s5; have BN := WB.out w5 g5; have c5 := (BN.cell (p := ⟨g, o + k, none⟩) hgw).trans y1; have y5 := (BN.cell (p := ⟨w.heap.size, 0, none⟩) (by show w.heap.size < w1.heap.size; omega)).trans x0; have e5 := (BN.cell (p := ⟨g2, o2 + k * 3, none⟩) hgw2).trans y2)
          go_roundw
          case rel => exact ⟨k + 1, by omega, by go_num, by rw [HFR.out], by rw [HN.out]; exact o5, BN⟩
          case measure => simp [intOf]; omega
        · rw [hu] at HFR d1 y2
          simp only [if_true] at HFR
          go_wp2_with (at_builtin; refine wpList_appendO rfl (.tmp 29) (.tmp 35) rfl w1.heap.size _ ((bs.take k).map (!·)) rfl ow2 (some ⟨wr.heap.size, 0, none⟩) 1 1 _ [true] rfl rr (by rw [hlen]; omega) (by simp; omega) ?_; intro v5 w5 o5 g5 s5; have BN := WB.out w5 g5; have c5 := (BN.cell (p := ⟨g, o + k, none⟩) hgw).trans y1; have y5 := (BN.cell (p := ⟨w.heap.size, 0, none⟩) (by show w.heap.size < w1.heap.size; omega)).trans x0; have e5 := (BN.cell (p := ⟨g2, o2 + k * 3, none⟩) hgw2).trans y2)
          go_roundw
          case rel => exact ⟨k + 1, by omega, by go_num, by rw [HFR.out]; go_num, by rw [HN.out]; exact o5, BN⟩
          case measure => simp [intOf]; omega
      · have HFR := Lib.hid (Hps.freedTo_kept (cs := h.cs) hbl)
        have y1 : w1.cell? ⟨g, o + k, none⟩ = some (.bool true) := (bb.cell (p := ⟨g, o + k, none⟩) hgw).symm.trans c1
        have y2 : w1.cell? ⟨g2, o2 + k * 3, none⟩ = some (.bool cl.u) := (bb.cell (p := ⟨g2, o2 + k * 3, none⟩) hgw2).symm.trans d1
        clear hbl hcl d2 d3 ow
        simp only [Bool.not_true] at ow2 rr WB HN
        go_wp2_with (at_builtin; refine wpList_appendO rfl (.tmp 29) (.tmp 35) rfl w1.heap.size _ ((bs.take k).map (!·)) rfl ow2 (some ⟨wr.heap.size, 0, none⟩) 1 1 _ [false] rfl rr (by rw [hlen]; omega) (by simp; omega) ?_; intro v5 w5 o5 g5 s5; have BN := WB.out w5 g5; have c5 := (BN.cell (p := ⟨g, o + k, none⟩) hgw).trans y1; have y5 := (BN.cell (p := ⟨w.heap.size, 0, none⟩) (by show w.heap.size < w1.heap.size; omega)).trans x0; have e5 := (BN.cell (p := ⟨g2, o2 + k * 3, none⟩) hgw2).trans y2)
        go_roundw
        case rel => exact ⟨k + 1, by omega, by go_num, by rw [HFR.out], by rw [HN.out]; exact o5, BN⟩
        case measure => simp [intOf]; omega
    · obtain rfl : k = q := by omega
      have ow' : OwnO wr w1.heap.size (.slice Av k cv) (bs.map (!·)) := by
        rw [List.take_of_length_le (by rw [HB.out]; omega)] at ow
        exact ow
      have rd := ow'.reads
      have hsr := hs.up bw
      clear ow hlen x0 x1
      go_wp2_with fail
      refine (l11Drop_any _ _ _ _ _ _ _ _ h (bs.map (!·)) _ hsr rd (by omega) (by have := HM.out; omega) H3.out).mono ?_
      rintro e w5 ⟨vc, vr, rfl, oh, b5⟩
      have b6 := bw.trans (b5.mono bw.size)
      have q3 := (q3.keep bb q3.lt).keep b5 (q3.keep bb q3.lt).lt
      obtain ⟨rvs, S⟩ := BoxSt.of oh b5
      obtain ⟨Ac, cc, Rc, dc, rfl, rfl, -⟩ := oh.form
      have hlx : (Hps.dropH h (bs.map (!·))).cs.length = k := by rw [Hps.dropH, Hps.dropL_len]; exact HLC.out
      have hrx : (Hps.dropH h (bs.map (!·))).rt.length = m := hsr.roots.1
      rw [hlx, hrx] at oh S ⊢
      have b7 : Below w.heap.size w (w5.alloc (.cells #[.slice Ac k cc, .slice Rc m dc] 26)) := b6.alloc b6.size _
      replace q3 := q3.alloc (.cells #[.slice Ac k cc, .slice Rc m dc] 26)
      clear oh b5 b6 hsr x0' x1' rd ow'
      go_upto_region 12 with fail
      generalize w5.alloc (.cells #[.slice Ac k cc, .slice Rc m dc] 26) = w6 at S b7 q3 ⊢
      generalize w5.heap.size = b at S ⊢
      have z0 : w6.cell? ⟨b, 0, none⟩ = some (.slice Ac k cc) := S.box.cell 0
      have z1 : w6.cell? ⟨b, 1, none⟩ = some (.slice Rc m dc) := S.box.cell 1
      have hsx := S.own.reads
      go_wp2_with fail
      refine (mHeapValid_any _ _ _ _ _ _ _ _ hsx (by omega) (by have := HM.out; omega)).mono ?_
      rintro e w7 ⟨rfl, b8⟩
      replace q3 := q3.keep b8 q3.lt
      replace S := S.up b8
      replace b7 := b7.trans (b8.mono b7.size)
      clear hsx b8 z0 z1
      cases hv2 : Hps.validH (Hps.dropH h (bs.map (!·)))
      · have HF := Lib.hid (Hps.sweepH_bad HV.out HLB.out hv2)
        have r2 : (w7).frozen? ⟨w.heap.size + 1, 0, none⟩ = false := q3.frozen 0
        have r3 : (w7).frozen? ⟨w.heap.size + 1, 1, none⟩ = false := q3.frozen 1
        have r4 : (w7).cell? ⟨w.heap.size + 1, 0, none⟩ = some (.slice none 0 0) := q3.cell 0
        have r5 : (w7).cell? ⟨w.heap.size + 1, 1, none⟩ = some (.slice none 0 0) := q3.cell 1
        have r6 : (((w7).setCell ⟨w.heap.size + 1, 0, none⟩ (.slice none 0 0)).setCell ⟨w.heap.size + 1, 1, none⟩ (.slice none 0 0)).cell? ⟨w.heap.size + 1, 0, none⟩ = some (.slice none 0 0) := ((q3.put 0 (.slice none 0 0)).put 1 (.slice none 0 0)).cell 0
        have r7 : (((w7).setCell ⟨w.heap.size + 1, 0, none⟩ (.slice none 0 0)).setCell ⟨w.heap.size + 1, 1, none⟩ (.slice none 0 0)).cell? ⟨w.heap.size + 1, 1, none⟩ = some (.slice none 0 0) := ((q3.put 0 (.slice none 0 0)).put 1 (.slice none 0 0)).cell 1
        have D := Lib.hid ((own_zeroH (w7) (w7).heap.size (Nat.le_refl _)).out (w := w) (g := w.heap.size + 1) q3.lt b7 (by omega))
        clear S q3 b7 hv2 q1 b2 bb bw hfl
        go_wp2_with fail
        exact bodyPost_ret (v := .tuple #[.agg #[.slice none 0 0, .slice none 0 0], .int .i64 (-1)]) (by simp [results, Try.results102, go_sem, *]) rfl ⟨_, _, by rw [HF.out], by rw [HF.out]; exact D.out.1, D.out.2⟩
      · have HF := Lib.hid (Hps.sweepH_ok HV.out HLB.out hv2)
        rw [HLC.out] at HF
        have z0 : w7.cell? ⟨b, 0, none⟩ = some (.slice Ac k cc) := S.box.cell 0
        have z1 : w7.cell? ⟨b, 1, none⟩ = some (.slice Rc m dc) := S.box.cell 1
        have r2 : (w7).frozen? ⟨w.heap.size + 1, 0, none⟩ = false := q3.frozen 0
        have r3 : (w7).frozen? ⟨w.heap.size + 1, 1, none⟩ = false := q3.frozen 1
        have r4 : (w7).cell? ⟨w.heap.size + 1, 0, none⟩ = some (.slice none 0 0) := q3.cell 0
        have r5 : (w7).cell? ⟨w.heap.size + 1, 1, none⟩ = some (.slice none 0 0) := q3.cell 1
        have r6 : (((w7).setCell ⟨w.heap.size + 1, 0, none⟩ (.slice Ac k cc)).setCell ⟨w.heap.size + 1, 1, none⟩ (.slice Rc m dc)).cell? ⟨w.heap.size + 1, 0, none⟩ = some (.slice Ac k cc) := ((q3.put 0 (.slice Ac k cc)).put 1 (.slice Rc m dc)).cell 0
        have r7 : (((w7).setCell ⟨w.heap.size + 1, 0, none⟩ (.slice Ac k cc)).setCell ⟨w.heap.size + 1, 1, none⟩ (.slice Rc m dc)).cell? ⟨w.heap.size + 1, 1, none⟩ = some (.slice Rc m dc) := ((q3.put 0 (.slice Ac k cc)).put 1 (.slice Rc m dc)).cell 1
        have D := Lib.hid (S.ownH.out (w := w) (g := w.heap.size + 1) (by have := bb.size; omega) b7 (by omega))
        clear S q3 b7 hv2 q1 b2 bb bw hfl
        go_wp2_with fail
        exact bodyPost_ret (v := .tuple #[.agg #[.slice Ac k cc, .slice Rc m dc], .int .i64 (Hps.freedTo h.cs bs k : Int)]) (by simp [results, Try.results102, go_sem, *]) rfl ⟨_, _, by rw [HF.out], by rw [HF.out]; exact D.out.1, D.out.2⟩
end Go.Proofs.Ytakdjiojahlnmaa

namespace Go.Proofs.Ytakdjiojahlnmaa
open Go.RowKit
set_option maxRecDepth 100000
theorem OwnO.slices {w : World} {base : Nat} {v : Value} {xs : List Bool} (h : OwnO w base v xs) : ∃ A n c, v = .slice A n c := by
  obtain ⟨A, c, e, -⟩ := h.form
  exact ⟨A, _, c, e⟩
theorem OwnH.put {w : World} {base g : Nat} {vc vr : Value} {h : Hp} (ho : OwnH w base vc vr h) (hg : g < base) (u u' : Value) : OwnH ((w.setCell ⟨g, 0, none⟩ u).setCell ⟨g, 1, none⟩ u') base vc vr h := by
  obtain ⟨rvs, own⟩ := ho
  have ap : Apart (some g) (vc :: vr :: rvs) := own.apart_below hg
  exact ⟨rvs, (own.far (put_any w g 0 u) ap).far (put_any _ g 1 u') ap⟩
theorem OwnO.put2 {w : World} {base g : Nat} {v : Value} {xs : List Bool} (h : OwnO w base v xs) (hg : g < base) (u u' : Value) : OwnO ((w.setCell ⟨g, 0, none⟩ u).setCell ⟨g, 1, none⟩ u') base v xs := by
  have ne : v.ownBlock = none ∨ v.ownBlock ≠ some g := by
    cases e : v.ownBlock with
    | none => exact .inl rfl
    | some k => right; intro e'; injection e' with e'; have := (World.ownsRow.lt h k e).1; omega
  exact (h.far (put_any w g 0 u) ne).far (put_any _ g 1 u') ne

set_option maxRecDepth 100000 in
set_option maxHeartbeats 4000000 in
theorem mCollectSweep_any (A R : Option Addr) (n c m d : Nat) (h : Hp) (w : World) (hs : HS w w.heap.size A n R m h) (hn : n ≤ 1099511627776) (hm : m ≤ 1099511627776) :
    Calls Try.prog 78 #[heapV A n c R m d] w (GaveHN w (Hps.collectH h).1 (Hps.collectH h).2) := by
  have b2 : Below w.heap.size w ((w.alloc (.cells #[.slice A n c, .slice R m d] 26)).alloc (.cells #[.slice none 0 0, .slice none 0 0] 26)) := ((Below.refl w.heap.size w).alloc (Nat.le_refl _) _).alloc (by simp) _
  have q3 := Rw.new (w.alloc (.cells #[.slice A n c, .slice R m d] 26)) 26 #[.slice none 0 0, .slice none 0 0]
  simp only [World.size_alloc] at q3
  have q1 := (Rw.new w 26 #[.slice A n c, .slice R m d]).alloc (.cells #[.slice none 0 0, .slice none 0 0] 26)
  have hz : w.heap.size + 1 + 1 ≤ ((w.alloc (.cells #[.slice A n c, .slice R m d] 26)).alloc (.cells #[.slice none 0 0, .slice none 0 0] 26)).heap.size := by simp
  obtain ⟨rm, hrm⟩ : ∃ rm, Hps.reachH h = rm := ⟨_, rfl⟩
  obtain ⟨h2, hh2⟩ : ∃ h2, (Hps.collectH h).1 = h2 := ⟨_, rfl⟩
  obtain ⟨kk, hkk⟩ : ∃ kk, (Hps.collectH h).2 = kk := ⟨_, rfl⟩
  have hrl : rm.length ≤ 1099511627776 := by
    rw [← hrm, Hps.reachH]
    split
    · rw [Hps.reachL_len, hs.cells.1]; exact hn
    · simp
  have C1 := Lib.hid (fun (ww : World) (hh : HS ww ww.heap.size A n R m h) => by
    have := mReachable_any A R n c m d h ww hh hn hm
    rw [hrm] at this
    exact this)
  have C2 := Lib.hid (fun (ww : World) (Av : Option Addr) (nv cv : Nat) (hh : HS ww ww.heap.size A n R m h) (oo : OS ww ww.heap.size Av nv rm) => by
    have := mSweepCells_any A R Av n c m d nv cv h rm ww hh oo hn hm (by rw [← oo.1]; exact hrl)
    rw [show Hps.sweepH h rm = Hps.collectH h by rw [Hps.collectH, hrm], hh2, hkk] at this
    exact this)
  rw [hh2, hkk]
  clear hrm hh2 hkk hrl
  go_enter Try.func78, Try.ntmps78
  go_upto_region 1 with fail
  generalize (w.alloc (.cells #[.slice A n c, .slice R m d] 26)).alloc (.cells #[.slice none 0 0, .slice none 0 0] 26) = w0 at b2 q1 q3 hz ⊢
  refine wp_region_inv (by kernel_rfl) (by kernel_rfl) (fun L ac ww => ∃ t3 t4 t5 t6 t7 t8 t9 : Value, ac = { tmps := #[heapV A n c R m d, Value.pointer (some { block := w.heap.size, off := 0 }), Value.pointer (some { block := w.heap.size + 1, off := 0 }), t3, t4, t5, t6, t7, t8, t9], defers := [] } ∧ (Below (w.heap.size + 1) w0 ww) ∧ (∃ z0 z1 : Value, Rw ww (w.heap.size + 1) 26 #[z0, z1]) ∧ (L 4 = true → L 3 = true) ∧ (L 0 = true → t4 = .agg #[.slice A n c, .slice R m d]) ∧ (L 1 = true → t5 = .agg #[.slice A n c, .slice R m d]) ∧ (L 2 = true → ∃ (Av : Option Addr) (nv cv : Nat), t6 = .slice Av nv cv ∧ OwnO ww w0.heap.size (.slice Av nv cv) rm) ∧ (L 3 = true → ∃ (A5 : Option Addr) (n5 c5 : Nat) (R5 : Option Addr) (m5 d5 : Nat), t7 = .tuple #[.agg #[.slice A5 n5 c5, .slice R5 m5 d5], .int .i64 kk] ∧ OwnH ww w0.heap.size (.slice A5 n5 c5) (.slice R5 m5 d5) h2) ∧ (L 4 = true → ∃ (A5 : Option Addr) (n5 c5 : Nat) (R5 : Option Addr) (m5 d5 : Nat), t7 = .tuple #[.agg #[.slice A5 n5 c5, .slice R5 m5 d5], .int .i64 kk] ∧ t8 = .agg #[.slice A5 n5 c5, .slice R5 m5 d5]) ∧ (L 5 = true → t9 = .int .i64 kk) ∧ (L 6 = true → ∃ (A5 : Option Addr) (n5 c5 : Nat) (R5 : Option Addr) (m5 d5 : Nat), Rw ww (w.heap.size + 1) 26 #[.slice A5 n5 c5, .slice R5 m5 d5] ∧ OwnH ww w0.heap.size (.slice A5 n5 c5) (.slice R5 m5 d5) h2) ∧ (L 7 = true → t3 = .int .i64 kk)) ?h0 ?hstep ?hdone
  case h0 => exact ⟨_, _, _, _, _, _, _, rfl, (Below.refl _ _).drew, ⟨_, _, q3⟩, fun h => absurd h Bool.false_ne_true, (fun h => absurd h Bool.false_ne_true), (fun h => absurd h Bool.false_ne_true), (fun h => absurd h Bool.false_ne_true), (fun h => absurd h Bool.false_ne_true), (fun h => absurd h Bool.false_ne_true), (fun h => absurd h Bool.false_ne_true), (fun h => absurd h Bool.false_ne_true), (fun h => absurd h Bool.false_ne_true)⟩
  case hstep =>
    rintro L ac ww i o ho hL hd ⟨t3, t4, t5, t6, t7, t8, t9, rfl, I0, I1, I2, f0, f1, f2, f3, f4, f5, f6, f7⟩
    have hi : i < 8 := (Array.getElem?_eq_some_iff.1 ho).1
    obtain rfl | rfl | rfl | rfl | rfl | rfl | rfl | rfl : i = 0 ∨ i = 1 ∨ i = 2 ∨ i = 3 ∨ i = 4 ∨ i = 5 ∨ i = 6 ∨ i = 7 := by omega
    · obtain rfl := Option.some.inj ho
      have y0 : ww.cell? ⟨w.heap.size, 0, none⟩ = some (.slice A n c) := (I0.cell (p := ⟨w.heap.size, 0, none⟩) (Nat.lt_succ_self _)).trans (q1.cell 0)
      have y1 : ww.cell? ⟨w.heap.size, 1, none⟩ = some (.slice R m d) := (I0.cell (p := ⟨w.heap.size, 1, none⟩) (Nat.lt_succ_self _)).trans (q1.cell 1)
      refine wpOp_step rfl (fun K' hK => ?_)
      go_simp
      refine hK _ _ ?_
      exact ⟨_, _, _, _, _, _, _, rfl, (I0), (I1), (fun h => upd_mono (I2 (upd_ne h (by decide)))), (fun _ => rfl), (kp f1), (kp f2), (kp f3), (kp f4), (kp f5), (kp f6), (kp f7)⟩
    · obtain rfl := Option.some.inj ho
      have y0 : ww.cell? ⟨w.heap.size, 0, none⟩ = some (.slice A n c) := (I0.cell (p := ⟨w.heap.size, 0, none⟩) (Nat.lt_succ_self _)).trans (q1.cell 0)
      have y1 : ww.cell? ⟨w.heap.size, 1, none⟩ = some (.slice R m d) := (I0.cell (p := ⟨w.heap.size, 1, none⟩) (Nat.lt_succ_self _)).trans (q1.cell 1)
      refine wpOp_step rfl (fun K' hK => ?_)
      go_simp
      refine hK _ _ ?_
      exact ⟨_, _, _, _, _, _, _, rfl, (I0), (I1), (fun h => upd_mono (I2 (upd_ne h (by decide)))), (kp f0), (fun _ => rfl), (kp f2), (kp f3), (kp f4), (kp f5), (kp f6), (kp f7)⟩
    · obtain rfl := Option.some.inj ho
      have g1 := f1 (hd ⟨1, .data⟩ (by simp) rfl)
      subst g1
      refine wpOp_step rfl (fun K' hK => ?_)
      go_simp
      have hsw : HS ww ww.heap.size A n R m h := hs.up (b2.trans (I0.mono (Nat.le_succ _)))
      refine (C1.out ww hsw).mono ?_
      rintro e w' ⟨v1, rfl, oo, b5⟩
      obtain ⟨Av, nv, cv, rfl⟩ := oo.slices
      have hsz := I0.size
      obtain ⟨z0, z1, hz1⟩ := I1
      refine hK _ _ ?_
      exact ⟨_, _, _, _, _, _, _, rfl, (I0.trans (b5.mono (Nat.le_trans (by omega) hsz))), (⟨z0, z1, hz1.keep b5 hz1.lt⟩), (fun h => upd_mono (I2 (upd_ne h (by decide)))), (kp f0), (kp f1), (fun _ => ⟨_, _, _, rfl, oo.base hsz⟩), (fun h => by
        obtain ⟨A5, n5, c5, R5, m5, d5, r5, o5⟩ := f3 (upd_ne h (by decide))
        exact ⟨A5, n5, c5, R5, m5, d5, r5, o5.below b5 (Nat.le_refl _)⟩), (kp f4), (kp f5), (fun h => by
        obtain ⟨A5, n5, c5, R5, m5, d5, r5, o5⟩ := f6 (upd_ne h (by decide))
        exact ⟨A5, n5, c5, R5, m5, d5, r5.keep b5 r5.lt, o5.below b5 (Nat.le_refl _)⟩), (kp f7)⟩
    · obtain rfl := Option.some.inj ho
      have g0 := f0 (hd ⟨0, .data⟩ (by simp) rfl)
      have g2 := f2 (hd ⟨2, .data⟩ (by simp) rfl)
      subst g0
      obtain ⟨Av, nv, cv, rfl, o2⟩ := g2
      refine wpOp_step rfl (fun K' hK => ?_)
      go_simp
      have hsw : HS ww ww.heap.size A n R m h := hs.up (b2.trans (I0.mono (Nat.le_succ _)))
      refine (C2.out ww Av nv cv hsw o2.reads).mono ?_
      rintro e w' ⟨v1, v2, rfl, oh, b5⟩
      obtain ⟨A5, n5, c5, R5, m5, d5, rfl, rfl⟩ := oh.slices
      have hsz := I0.size
      obtain ⟨z0, z1, hz1⟩ := I1
      refine hK _ _ ?_
      exact ⟨_, _, _, _, _, _, _, rfl, (I0.trans (b5.mono (Nat.le_trans (by omega) hsz))), (⟨z0, z1, hz1.keep b5 hz1.lt⟩), (fun h => upd_mono (I2 (upd_ne h (by decide)))), (kp f0), (kp f1), (fun h => ⟨Av, nv, cv, rfl, o2.below b5 (Nat.le_refl _)⟩), (fun _ => ⟨_, _, _, _, _, _, rfl, oh.base hsz⟩), (fun h => absurd (I2 (upd_ne h (by decide))) (by rw [hL]; simp)), (kp f5), (fun h => by
        obtain ⟨A5, n5, c5, R5, m5, d5, r5, o5⟩ := f6 (upd_ne h (by decide))
        exact ⟨A5, n5, c5, R5, m5, d5, r5.keep b5 r5.lt, o5.below b5 (Nat.le_refl _)⟩), (kp f7)⟩
    · obtain rfl := Option.some.inj ho
      have g3 := f3 (hd ⟨3, .data⟩ (by simp) rfl)
      obtain ⟨A5, n5, c5, R5, m5, d5, rfl, o3⟩ := g3
      refine wpOp_step rfl (fun K' hK => ?_)
      go_simp
      refine hK _ _ ?_
      exact ⟨_, _, _, _, _, _, _, rfl, (I0), (I1), (fun _ => upd_mono (hd ⟨3, .data⟩ (by simp) rfl)), (kp f0), (kp f1), (kp f2), (fun _ => ⟨_, _, _, _, _, _, rfl, o3⟩), (fun _ => ⟨_, _, _, _, _, _, rfl, rfl⟩), (kp f5), (kp f6), (kp f7)⟩
    · obtain rfl := Option.some.inj ho
      have g3 := f3 (hd ⟨3, .data⟩ (by simp) rfl)
      obtain ⟨A5, n5, c5, R5, m5, d5, rfl, o3⟩ := g3
      refine wpOp_step rfl (fun K' hK => ?_)
      go_simp
      refine hK _ _ ?_
      exact ⟨_, _, _, _, _, _, _, rfl, (I0), (I1), (fun h => upd_mono (I2 (upd_ne h (by decide)))), (kp f0), (kp f1), (kp f2), (fun _ => ⟨_, _, _, _, _, _, rfl, o3⟩), (kp f4), (fun _ => rfl), (kp f6), (kp f7)⟩
    · obtain rfl := Option.some.inj ho
      have g4 := f4 (hd ⟨4, .data⟩ (by simp) rfl)
      have g3 := f3 (hd ⟨3, .chain⟩ (by simp) rfl)
      obtain ⟨A5, n5, c5, R5, m5, d5, rfl, rfl⟩ := g4
      obtain ⟨A6, n6, c6, R6, m6, d6, e6, oo⟩ := g3
      injection e6 with e6
      simp at e6
      obtain ⟨⟨rfl, rfl, rfl⟩, rfl, rfl, rfl⟩ := e6
      obtain ⟨z0, z1, hz1⟩ := I1
      have u0 := hz1.cell 0
      have u1 := hz1.cell 1
      have u2 := hz1.frozen 0
      have u3 := hz1.frozen 1
      simp at u0 u1
      refine wpOp_step rfl (fun K' hK => ?_)
      go_simp
      refine hK _ _ ?_
      exact ⟨_, _, _, _, _, _, _, rfl, ((I0.setCell (p := ⟨w.heap.size + 1, 0, none⟩) (Nat.le_refl _) _).setCell (p := ⟨w.heap.size + 1, 1, none⟩) (Nat.le_refl _) _), (⟨_, _, (hz1.put 0 _).put 1 _⟩), (fun h => upd_mono (I2 (upd_ne h (by decide)))), (kp f0), (kp f1), (fun h => by
        obtain ⟨Av, nv, cv, e, o2⟩ := f2 (upd_ne h (by decide))
        exact ⟨Av, nv, cv, e, o2.put2 (by omega) _ _⟩), (fun h => ⟨_, _, _, _, _, _, rfl, oo.put (by omega) _ _⟩), (kp f4), (kp f5), (fun _ => ⟨_, _, _, _, _, _, (hz1.put 0 _).put 1 _, oo.put (by omega) _ _⟩), (kp f7)⟩
    · obtain rfl := Option.some.inj ho
      have g5 := f5 (hd ⟨5, .data⟩ (by simp) rfl)
      subst g5
      refine wpOp_step rfl (fun K' hK => ?_)
      go_simp
      refine hK _ _ ?_
      exact ⟨_, _, _, _, _, _, _, rfl, (I0), (I1), (fun h => upd_mono (I2 (upd_ne h (by decide)))), (kp f0), (kp f1), (kp f2), (kp f3), (kp f4), (kp f5), (kp f6), (fun _ => rfl)⟩
  case hdone =>
    rintro L ac ww hall ⟨t3, t4, t5, t6, t7, t8, t9, rfl, I0, I1, I2, f0, f1, f2, f3, f4, f5, f6, f7⟩
    have e0 := f0 (hall 0 (by decide))
    have e1 := f1 (hall 1 (by decide))
    have e2 := f2 (hall 2 (by decide))
    have e3 := f3 (hall 3 (by decide))
    have e4 := f4 (hall 4 (by decide))
    have e5 := f5 (hall 5 (by decide))
    have e6 := f6 (hall 6 (by decide))
    have e7 := f7 (hall 7 (by decide))
    clear f0 f1 f2 f3 f4 f5 f6 f7
    obtain ⟨A5, n5, c5, R5, m5, d5, r5, o5⟩ := e6
    have r6 := r5.cell 0
    have r7 := r5.cell 1
    simp at r6 r7
    have bf : Below w.heap.size w ww := b2.trans (I0.mono (Nat.le_succ _))
    have of := o5.base (base' := w.heap.size) (by omega)
    clear e0 e1 e2 e3 e4 e5 I1 I2 C1 C2 q1 q3 hs o5 r5
    go_wp2_with fail
    exact bodyPost_ret (v := .tuple #[.agg #[.slice A5 n5 c5, .slice R5 m5 d5], .int .i64 kk]) (by simp [results, Try.results78, go_sem, *]) rfl ⟨_, _, rfl, of, bf⟩
end Go.Proofs.Ytakdjiojahlnmaa
