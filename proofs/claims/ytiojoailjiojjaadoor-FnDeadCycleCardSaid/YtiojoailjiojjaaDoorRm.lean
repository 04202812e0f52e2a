/- What the program's componentsFrom returns: the components of all to which a used cell leads, each ahead of those to which it leads. No conditions. -/
import Derived.Test.YtiojoailjiojjaaDoorRl
import Derived.BigRegion
namespace Go.Proofs.YtiojoailjiojjaaDoor
open Go.RowKit
set_option maxRecDepth 100000

/-- the first k and the last k elements are turned round -/
def RevTo (xs ys : List Int) (k : Nat) : Prop := ys.length = xs.length ∧ ∀ i, i < xs.length → ys[i]? = if i < k ∨ xs.length ≤ i + k then xs[xs.length - 1 - i]? else xs[i]?
theorem RevTo.zero (xs : List Int) : RevTo xs xs 0 := ⟨rfl, fun i hi => by rw [if_neg (by omega)]⟩
theorem RevTo.fin {xs ys : List Int} {k : Nat} (h : RevTo xs ys k) (hk : xs.length ≤ 2 * k + 1) : ys = xs.reverse := by
  apply List.ext_getElem?
  intro i
  rcases Nat.lt_or_ge i xs.length with hi | hi
  · rw [h.2 i hi, List.getElem?_reverse hi]
    split
    · rfl
    · next hn => rw [show xs.length - 1 - i = i by omega]
  · rw [List.getElem?_eq_none (by rw [h.1]; exact hi), List.getElem?_eq_none (by simpa using hi)]
theorem RevTo.step {xs ys : List Int} {k : Nat} {x y : Int} (h : RevTo xs ys k) (hk : 2 * k + 1 < xs.length) (hx : ys[k]? = some x) (hy : ys[xs.length - 1 - k]? = some y) : RevTo xs ((ys.set k y).set (xs.length - 1 - k) x) (k + 1) := by
  refine ⟨by simp [h.1], fun i hi => ?_⟩
  have hl := h.1
  have h1 := h.2 k (by omega)
  have h2 := h.2 (xs.length - 1 - k) (by omega)
  rw [if_neg (by omega), hx] at h1
  rw [if_neg (by omega), hy] at h2
  rw [List.getElem?_set, List.getElem?_set, List.length_set]
  by_cases e : xs.length - 1 - k = i
  · rw [if_pos e, if_pos (by omega), if_pos (by omega), ← e, show xs.length - 1 - (xs.length - 1 - k) = k by omega, h1]
  · rw [if_neg e]
    by_cases e2 : k = i
    · rw [if_pos e2, if_pos (by omega), if_pos (by omega), ← e2, h2]
    · rw [if_neg e2, h.2 i hi]
      by_cases q : i < k ∨ xs.length ≤ i + k
      · rw [if_pos q, if_pos (by omega)]
      · rw [if_neg q, if_neg (by omega)]

set_option maxHeartbeats 4000000 in
set_option maxRecDepth 2000000 in
theorem reverse_any (B n c : Nat) (A : Option Addr) (xs : List Int) (w : World) (ho : OwnU w B (.slice A n c) xs) (hn : n ≤ 1099511627776) :
    Calls Tryd.prog 123 #[.slice A n c] w fun e w' => e = .returned (.tuple #[]) ∧ OwnU w' B (.slice A n c) xs.reverse ∧ Below B w w' ∧ World.grownBy w w' (Value.slice A n c).ownBlock := by
  have HL := Lib.hid ho.cap.1
  have HX := Lib.hid (RevTo.zero xs)
  have hG := World.grownBy.refl w (Value.slice A n c).ownBlock
  go_enter Tryd.func123, Tryd.ntmps123
  go_wp2_with fail
  go_loopw [2, 3] (fun i j wr => ∃ (k : Nat) (ys : List Int), i = .int .i64 k ∧ j = .int .i64 ((n : Int) - 1 - k) ∧ k ≤ n ∧ OwnU wr B (.slice A n c) ys ∧ Hid (RevTo xs ys k) ∧ Below B w wr ∧ World.grownBy w wr (Value.slice A n c).ownBlock) (fun i _ _ => n - (intOf i).toNat)
  case atStart => exact ⟨0, xs, rfl, by rw [Int.natCast_zero, Int.sub_zero], Nat.zero_le _, ho, HX, Below.refl _ _, hG⟩
  case round =>
    clear ho HX hG
    obtain ⟨k, ys, rfl, rfl, hkn, ho, HX, bb, hG⟩ := hrel
    have HYL := Lib.hid HX.out.1
    by_cases hlt : 2 * k + 1 < n
    · have hlt' : (k : Int) < (n : Int) - 1 - k := by omega
      obtain ⟨p, hp⟩ : ∃ p, n - 1 - k = p := ⟨_, rfl⟩
      have hpe : (n : Int) - 1 - k = p := by omega
      have hyn : ys.length = n := by rw [HYL.out, ← HL.out]
      obtain ⟨A', c', e', hA⟩ := ho.form
      injection e' with e1 e2 e3
      subst e1 e3
      obtain ⟨g, rfl, hBg, hgl⟩ := hA (by omega)
      obtain ⟨g', o', x, e1, _, hx, c1⟩ := ho.reads.at_ (k := k) (by omega)
      injection e1 with e1
      injection e1 with e2 e3
      subst e2 e3
      obtain ⟨g', o', y, e1, _, hy, c2⟩ := ho.reads.at_ (k := p) (by omega)
      injection e1 with e1
      injection e1 with e2 e3
      subst e2 e3
      rw [Nat.zero_add] at c1 c2
      have hxp : xs.length - 1 - k = p := by rw [← HL.out]; exact hp
      have HN := Lib.hid (HX.out.step (by rw [← HL.out]; exact hlt) hx (by rw [hxp]; exact hy))
      rw [hxp] at HN
      have f1 : wr.frozen? ⟨g, k, none⟩ = false := ho.frozen hyn k
      have o1 := ho.put' (j := k) hyn y
      have f2 : (wr.setCell ⟨g, k, none⟩ (.int .u64 y)).frozen? ⟨g, p, none⟩ = false := o1.frozen (by simpa using hyn) p
      have o2 := o1.put' (j := p) (by simpa using hyn) x
      have bn := (bb.setCell (p := ⟨g, k, none⟩) hBg (.int .u64 y)).setCell (p := ⟨g, p, none⟩) hBg (.int .u64 x)
      have c3 : ∃ u, (wr.setCell ⟨g, k, none⟩ (.int .u64 y)).cell? ⟨g, p, none⟩ = some u := by
        obtain ⟨g', o', u, e1, _, _, c⟩ := o1.reads.at_ (k := p) (by omega)
        injection e1 with e1
        injection e1 with e2 e3
        subst e2 e3
        rw [Nat.zero_add] at c
        exact ⟨_, c⟩
      obtain ⟨u, c3⟩ := c3
      have hkn' : (k : Int) < n := by omega
      have hpn' : (p : Int) < n := by omega
      have gn := only_put (only_put hG k (.int .u64 y)) p (.int .u64 x)
      rw [hpe]
      have hw1 : IntKind.i64.wrap ((k : Int) + 1) = (k : Int) + 1 := IntWalk.i64_in _ (by omega)
      have hw2 : IntKind.i64.wrap ((p : Int) - 1) = (p : Int) - 1 := IntWalk.i64_in _ (by omega)
      rw [hpe] at hlt'
      clear hx hy hxp ho o1 hA hG
      go_wp2_with fail
      have HPE := Lib.hid hpe
      have HLT := Lib.hid hlt
      have od := o2.below (Below.refl _ _).drew (Nat.le_refl _)
      have gd := grown_below gn (Below.refl w.heap.size _).drew
      have bd := bn.drew
      clear hlt' hlt hp hpe e2 hkn hyn o2 gn bn
      go_region
      go_wp2
      have hp2 := HPE.out
      have hl2 := HLT.out
      go_roundw
      case rel => exact ⟨k + 1, _, by go_num, by rw [show (n : Int) - 1 - ((k + 1 : Nat) : Int) = (p : Int) - 1 by omega], by omega, od, HN, bd, gd⟩
      case measure => simp [intOf]; omega
    · have hlt' : ¬ (k : Int) < (n : Int) - 1 - k := by omega
      have hE := HX.out.fin (by rw [← HL.out]; omega)
      subst hE
      go_wp2_with fail
      exact bodyPost_end (results_none rfl _ _ _) rfl ⟨rfl, ho, bb, hG⟩
/-- components of the call's own, each ahead of those to which it leads -/
def CompsGave (cs : List Cl) (v : Nat) (w : World) (e : Ending) (w' : World) : Prop := ∃ (fv : Value) (f : List Nat), e = .returned fv ∧ Hps.Comps cs v f ∧ OwnU w' w.heap.size fv (natsI f.reverse) ∧ Below w.heap.size w w'

set_option maxHeartbeats 1000000 in
theorem componentsFrom_any (A : Option Addr) (n c v : Nat) (cs : List Cl) (w : World) (hcs : CS w w.heap.size A n cs) (hrf : ∀ cl ∈ cs, Hps.okRefs cs cl.r = true) (h3 : ∀ cl ∈ cs, cl.r.length ≤ 3) (hn : n ≤ 40) (hv : v < n) :
    Calls Tryd.prog 89 #[.slice A n c, .int .i64 v] w (CompsGave cs v w) := by
  have hlc := hcs.1
  have HRF := Lib.hid hrf
  have HC3 := Lib.hid h3
  have hmk := makeI w n (by omega)
  have o1 := own_madeI w n (by omega)
  have b1 : Below w.heap.size w (w.alloc (.cells (Array.replicate n (.int .i64 0)) 3)) := (Below.refl _ _).alloc (Nat.le_refl _) _
  have hsz : (w.alloc (.cells (Array.replicate n (.int .i64 0)) 3)).heap.size = w.heap.size + 1 := by simp
  obtain ⟨w1, hw1⟩ : ∃ w1, w.alloc (.cells (Array.replicate n (.int .i64 0)) 3) = w1 := ⟨_, rfl⟩
  rw [hw1] at hmk o1 b1 hsz
  have hbx := Rw.new w1 148 #[.slice A n c, .int .i64 0, .slice (some ⟨w.heap.size, 0, none⟩) n n, .slice none 0 0, .slice none 0 0]
  have b2 := b1.alloc b1.size (.cells #[.slice A n c, .int .i64 0, .slice (some ⟨w.heap.size, 0, none⟩) n n, .slice none 0 0, .slice none 0 0] 148)
  have o2 := World.ownsRow.alloc o1 (.cells #[.slice A n c, .int .i64 0, .slice (some ⟨w.heap.size, 0, none⟩) n n, .slice none 0 0, .slice none 0 0] 148)
  obtain ⟨w2, hw2⟩ : ∃ w2, w1.alloc (.cells #[.slice A n c, .int .i64 0, .slice (some ⟨w.heap.size, 0, none⟩) n n, .slice none 0 0, .slice none 0 0] 148) = w2 := ⟨_, rfl⟩
  rw [hw2] at hbx b2 o2
  rw [hsz] at hbx
  have W : WkSt w2 w.heap.size (w.heap.size + 1) w.heap.size (.slice A n c) n (.slice none 0 0) (.slice none 0 0) (.zero n) :=
    ⟨o2, World.ownsRow_nil _ _ _ _, World.ownsRow_nil _ _ _ _, (fun e => by cases e), hbx, (by omega), (by simp [Hps.Tw.zero])⟩
  have HV := Lib.hid (visit_any w w.heap.size (w.heap.size + 1) w.heap.size n c A cs hcs hrf h3 hn (Nat.le_refl _) n v w2 _ _ (.zero n) (by simp [Hps.Tw.zero]) hv (by rw [← hlc]; exact .zero (by omega)) W b2)
  have HW2 := Lib.hid hw2
  clear hw1 hrf h3 W o1 o2 hbx hw2
  go_enter Tryd.func89, Tryd.ntmps89
  go_wp2_with fail
  rw [HW2.out]
  refine HV.out.mono ?_
  rintro e w3 ⟨m, ov, fv, S, rfl, P, W, b3⟩
  have hC := Hps.TwPost.comps (n := m) (S' := S) (cs := cs) (v := v) (by rw [hlc]; exact P)
  obtain ⟨A5, c5, rfl, hA5⟩ := W.f.form
  have hlen := natsI_len S.f
  have hfl := hC.len
  obtain ⟨l5, hl5⟩ : ∃ l5, (natsI S.f).length = l5 := ⟨_, rfl⟩
  rw [hl5] at W hA5 hlen
  have x4 : w3.cell? ⟨w.heap.size + 1, 4, none⟩ = some (.slice A5 l5 c5) := W.box.cell 4
  have HR := Lib.hid (reverse_any w.heap.size l5 c5 A5 (natsI S.f) w3 W.f (by omega))
  have hne := W.ne.2.2
  have HB := Lib.hid W.box
  have hCC := Lib.hid hC
  have HE := Lib.hid (show (natsI S.f).reverse = natsI S.f.reverse by simp [natsI])
  clear hA5 hlen hfl hl5 P W hC HV
  go_wp2_with fail
  refine HR.out.mono ?_
  rintro e w4 ⟨rfl, o4, b4, g4⟩
  have x5 : w4.cell? ⟨w.heap.size + 1, 4, none⟩ = some (.slice A5 l5 c5) := (HB.out.far g4 hne).cell 4
  rw [HE.out] at o4
  have bb := b3.trans b4
  clear HR
  go_wp2_with fail
  go_ret
  exact ⟨_, S.f, rfl, hCC.out, o4, bb⟩
end Go.Proofs.YtiojoailjiojjaaDoor
