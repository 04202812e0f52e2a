/- What toCounted, eqCounted, szCounted, markCounted and heldCounted of the exact laws return. No conditions. -/
import Derived.Test.YtijgfpcpkmpdpaaGd
import Derived.Test.YtijgfpcpkmpdpaaCb
import Derived.Deep.Cut
namespace Go.Proofs.Ytijgfpcpkmpdpaa
open Go.RowKit
set_option maxRecDepth 100000

set_option maxHeartbeats 4000000 in
theorem toCounted_any (A R K : Option Addr) (n c m d p q : Nat) (h : Hp) (l : List Int) (w : World) (hs : HS w w.heap.size A n R m h) (hk : IS w w.heap.size K p l) (hn : n ≤ 1099511627776) (hm : m ≤ 1099511627776) (hp : p ≤ 1099511627776) (hb : ∀ cl ∈ h.cs, cl.r.length ≤ 1099511627776) :
    Calls Try.prog 40 #[ctV A n c R m d K p q] w fun e w' => ∃ g1 g2 g3, e = .returned (ctV (some ⟨g1, 0, none⟩) n n (some ⟨g2, 0, none⟩) m m (some ⟨g3, 0, none⟩) p p) ∧ OwnC w' w.heap.size (.slice (some ⟨g1, 0, none⟩) n n) (.slice (some ⟨g2, 0, none⟩) m m) (.slice (some ⟨g3, 0, none⟩) p p) h l ∧ Below w.heap.size w w' := by
  have b3 : Below w.heap.size w (((w.alloc (.cells #[.slice A n c, .slice R m d, .slice K p q] 57)).alloc (.cells #[.slice none 0 0, .slice none 0 0, .slice none 0 0] 50)).alloc (.cells #[.slice none 0 0, .slice none 0 0, .slice none 0 0] 50)) := (((Below.refl w.heap.size w).alloc (Nat.le_refl _) _).alloc (by simp) _).alloc (by simp; omega) _
  have i3 := hs.up b3
  have k3 := hk.up b3
  have r0 := ((Rw.new w 57 #[.slice A n c, .slice R m d, .slice K p q]).alloc (.cells #[.slice none 0 0, .slice none 0 0, .slice none 0 0] 50)).alloc (.cells #[.slice none 0 0, .slice none 0 0, .slice none 0 0] 50)
  have r1 := (Rw.new (w.alloc (.cells #[.slice A n c, .slice R m d, .slice K p q] 57)) 50 #[.slice none 0 0, .slice none 0 0, .slice none 0 0]).alloc (.cells #[.slice none 0 0, .slice none 0 0, .slice none 0 0] 50)
  have r2 := Rw.new ((w.alloc (.cells #[.slice A n c, .slice R m d, .slice K p q] 57)).alloc (.cells #[.slice none 0 0, .slice none 0 0, .slice none 0 0] 50)) 50 #[.slice none 0 0, .slice none 0 0, .slice none 0 0]
  simp only [World.size_alloc] at r1 r2
  have HB := Lib.hid hb
  clear hb
  go_enter Try.func40, Try.ntmps40
  go_upto_region 2 with fail
  generalize ((w.alloc (.cells #[.slice A n c, .slice R m d, .slice K p q] 57)).alloc (.cells #[.slice none 0 0, .slice none 0 0, .slice none 0 0] 50)).alloc (.cells #[.slice none 0 0, .slice none 0 0, .slice none 0 0] 50) = w3 at b3 i3 k3 r0 r1 r2 ⊢
  have x0 : w3.cell? ⟨w.heap.size, 0, none⟩ = some (.slice A n c) := r0.cell 0
  have x1 : w3.cell? ⟨w.heap.size, 1, none⟩ = some (.slice R m d) := r0.cell 1
  have hbase := r2.lt
  go_wp2_with fail
  refine (toHeap_any _ _ _ _ _ _ h _ i3 hn hm HB.out).mono ?_
  rintro e w4 ⟨g1, g2, rfl, oh, b4⟩
  replace r0 := r0.keep b4 r0.lt
  replace r1 := r1.keep b4 r1.lt
  replace r2 := r2.keep b4 r2.lt
  replace k3 := k3.up b4
  have bb4 := b3.trans (b4.mono b3.size)
  have hz3 := b3.size
  have hz4 := b4.size
  obtain ⟨G, hG⟩ : ∃ G, w.heap.size = G := ⟨_, rfl⟩
  have HG := Lib.hid hG
  rw [hG] at r0 r1 r2 bb4 hz3 hbase ⊢
  have u0 : w4.cell? ⟨G + 1 + 1, 0, none⟩ = some (.slice none 0 0) := r2.cell 0
  have u1 : w4.cell? ⟨G + 1 + 1, 1, none⟩ = some (.slice none 0 0) := r2.cell 1
  have f0 : w4.frozen? ⟨G + 1 + 1, 0, none⟩ = false := r2.frozen 0
  have f1 : w4.frozen? ⟨G + 1 + 1, 1, none⟩ = false := r2.frozen 1
  obtain ⟨rvs, own⟩ := oh
  have ap := own.apart_below hbase
  have own2 := (own.far (put_any w4 (G + 1 + 1) 0 (.slice (some ⟨g1, 0, none⟩) n n)) ap).far (put_any _ (G + 1 + 1) 1 (.slice (some ⟨g2, 0, none⟩) m m)) ap
  have q0 := (r0.other (show G ≠ G + 1 + 1 by omega) (i := 0) (.slice (some ⟨g1, 0, none⟩) n n)).other (show G ≠ G + 1 + 1 by omega) (i := 1) (.slice (some ⟨g2, 0, none⟩) m m)
  have q1 := (r1.other (show G + 1 ≠ G + 1 + 1 by omega) (i := 0) (.slice (some ⟨g1, 0, none⟩) n n)).other (show G + 1 ≠ G + 1 + 1 by omega) (i := 1) (.slice (some ⟨g2, 0, none⟩) m m)
  have q2 := (r2.put 0 (.slice (some ⟨g1, 0, none⟩) n n)).put 1 (.slice (some ⟨g2, 0, none⟩) m m)
  have b5 := (bb4.setCell (p := ⟨G + 1 + 1, 0, none⟩) (by show G ≤ G + 1 + 1; omega) (.slice (some ⟨g1, 0, none⟩) n n)).setCell (p := ⟨G + 1 + 1, 1, none⟩) (by show G ≤ G + 1 + 1; omega) (.slice (some ⟨g2, 0, none⟩) m m)
  have hk5 : IS ((w4.setCell ⟨G + 1 + 1, 0, none⟩ (.slice (some ⟨g1, 0, none⟩) n n)).setCell ⟨G + 1 + 1, 1, none⟩ (.slice (some ⟨g2, 0, none⟩) m m)) ((w4.setCell ⟨G + 1 + 1, 0, none⟩ (.slice (some ⟨g1, 0, none⟩) n n)).setCell ⟨G + 1 + 1, 1, none⟩ (.slice (some ⟨g2, 0, none⟩) m m)).heap.size K p l := by
    rw [hG] at hk
    exact (hk.below b5).more (by simp; omega)
  have hz45 : ((w4.setCell ⟨G + 1 + 1, 0, none⟩ (.slice (some ⟨g1, 0, none⟩) n n)).setCell ⟨G + 1 + 1, 1, none⟩ (.slice (some ⟨g2, 0, none⟩) m m)).heap.size = w4.heap.size := by simp
  clear x0 x1 r0 r1 r2 i3 k3 b3 b4 own bb4 ap
  go_upto_region 3 with fail
  generalize (w4.setCell ⟨G + 1 + 1, 0, none⟩ (.slice (some ⟨g1, 0, none⟩) n n)).setCell ⟨G + 1 + 1, 1, none⟩ (.slice (some ⟨g2, 0, none⟩) m m) = w5 at own2 q0 q1 q2 b5 hk5 hz45 ⊢
  have x2 : w5.cell? ⟨G, 2, none⟩ = some (.slice K p q) := q0.cell 2
  clear u0 u1 f0 f1
  go_wp2_with fail
  refine (toIntS_any _ _ _ l _ hk5 hp).mono ?_
  rintro e w6 ⟨rfl, o6, b6⟩
  have H6 := own2.counted b6 o6 (by omega)
  have t1 := q1.keep b6 q1.lt
  have t2 := q2.keep b6 q2.lt
  have bb6 := b5.trans (b6.mono (by have := b5.size; have := HG.out; omega))
  have hz5 := b5.size
  generalize w5.heap.size = g3 at H6 ⊢
  have T : (Rw w6 (G + 1 + 1) 50 #[.slice (some ⟨g1, 0, none⟩) n n, .slice (some ⟨g2, 0, none⟩) m m, .slice none 0 0]) := t2
  have S1 : Rw w6 (G + 1) 50 #[.slice none 0 0, .slice none 0 0, .slice none 0 0] := t1
  have v2 : w6.cell? ⟨G + 1 + 1, 2, none⟩ = some (.slice none 0 0) := T.cell 2
  have f2 : w6.frozen? ⟨G + 1 + 1, 2, none⟩ = false := T.frozen 2
  have T2 := T.put 2 (.slice (some ⟨g3, 0, none⟩) p p)
  have S2 := S1.other (show G + 1 ≠ G + 1 + 1 by omega) (i := 2) (.slice (some ⟨g3, 0, none⟩) p p)
  have own3 := H6.put (H6.apart_below hbase) 2 (.slice (some ⟨g3, 0, none⟩) p p)
  have b7 := bb6.setCell (p := ⟨G + 1 + 1, 2, none⟩) (by show G ≤ G + 1 + 1; omega) (.slice (some ⟨g3, 0, none⟩) p p)
  clear own2 q0 q1 q2 hk5 x2 b5 b6 o6 H6 t1 t2 bb6 T S1
  go_upto_region 4 with fail
  generalize w6.setCell ⟨G + 1 + 1, 2, none⟩ (.slice (some ⟨g3, 0, none⟩) p p) = w7 at T2 S2 own3 b7 ⊢
  have y0 : w7.cell? ⟨G + 1 + 1, 0, none⟩ = some (.slice (some ⟨g1, 0, none⟩) n n) := T2.cell 0
  have y1 : w7.cell? ⟨G + 1 + 1, 1, none⟩ = some (.slice (some ⟨g2, 0, none⟩) m m) := T2.cell 1
  have y2 : w7.cell? ⟨G + 1 + 1, 2, none⟩ = some (.slice (some ⟨g3, 0, none⟩) p p) := T2.cell 2
  have r2 : w7.frozen? ⟨G + 1, 0, none⟩ = false := S2.frozen 0
  have r3 : w7.frozen? ⟨G + 1, 1, none⟩ = false := S2.frozen 1
  have r4 : w7.frozen? ⟨G + 1, 2, none⟩ = false := S2.frozen 2
  have r5 : w7.cell? ⟨G + 1, 0, none⟩ = some (.slice none 0 0) := S2.cell 0
  have r6 : w7.cell? ⟨G + 1, 1, none⟩ = some (.slice none 0 0) := S2.cell 1
  have r7 : w7.cell? ⟨G + 1, 2, none⟩ = some (.slice none 0 0) := S2.cell 2
  have q4 := ((S2.put 0 (.slice (some ⟨g1, 0, none⟩) n n)).put 1 (.slice (some ⟨g2, 0, none⟩) m m)).put 2 (.slice (some ⟨g3, 0, none⟩) p p)
  have r8 : (((w7.setCell ⟨G + 1, 0, none⟩ (.slice (some ⟨g1, 0, none⟩) n n)).setCell ⟨G + 1, 1, none⟩ (.slice (some ⟨g2, 0, none⟩) m m)).setCell ⟨G + 1, 2, none⟩ (.slice (some ⟨g3, 0, none⟩) p p)).cell? ⟨G + 1, 0, none⟩ = some (.slice (some ⟨g1, 0, none⟩) n n) := q4.cell 0
  have r9 : (((w7.setCell ⟨G + 1, 0, none⟩ (.slice (some ⟨g1, 0, none⟩) n n)).setCell ⟨G + 1, 1, none⟩ (.slice (some ⟨g2, 0, none⟩) m m)).setCell ⟨G + 1, 2, none⟩ (.slice (some ⟨g3, 0, none⟩) p p)).cell? ⟨G + 1, 1, none⟩ = some (.slice (some ⟨g2, 0, none⟩) m m) := q4.cell 1
  have r10 : (((w7.setCell ⟨G + 1, 0, none⟩ (.slice (some ⟨g1, 0, none⟩) n n)).setCell ⟨G + 1, 1, none⟩ (.slice (some ⟨g2, 0, none⟩) m m)).setCell ⟨G + 1, 2, none⟩ (.slice (some ⟨g3, 0, none⟩) p p)).cell? ⟨G + 1, 2, none⟩ = some (.slice (some ⟨g3, 0, none⟩) p p) := q4.cell 2
  rw [← HG.out] at b7
  have D := Lib.hid (OwnC.out (w := w) (g := G + 1) ⟨rvs, own3⟩ (by omega) b7 (by have := HG.out; omega))
  clear q4 T2 S2 own3 b7
  go_wp2_with fail
  have hGG := HG.out
  subst hGG
  exact bodyPost_ret (v := ctV (some ⟨g1, 0, none⟩) n n (some ⟨g2, 0, none⟩) m m (some ⟨g3, 0, none⟩) p p) (by simp [results, Try.results40, go_sem, *]) rfl ⟨g1, g2, g3, rfl, D.out.1, D.out.2⟩

set_option maxHeartbeats 2000000 in
theorem eqCounted_any (A R K A' R' K' : Option Addr) (n c m d p q n' c' m' d' p' q' : Nat) (x y : Hp) (l l' : List Int) (w : World) (hx : HS w w.heap.size A n R m x) (hkx : IS w w.heap.size K p l) (hy : HS w w.heap.size A' n' R' m' y) (hky : IS w w.heap.size K' p' l') (hn : n ≤ 1099511627776) (hm : m ≤ 1099511627776) (hp : p ≤ 1099511627776) (hn' : n' ≤ 1099511627776) (hm' : m' ≤ 1099511627776) (hp' : p' ≤ 1099511627776) (hb : ∀ cl ∈ x.cs, cl.r.length ≤ 1099511627776) (hb' : ∀ cl ∈ y.cs, cl.r.length ≤ 1099511627776) :
    Calls Try.prog 41 #[ctV A n c R m d K p q, ctV A' n' c' R' m' d' K' p' q'] w fun e w' => e = .returned (.bool (decide (x = y ∧ l = l'))) ∧ Below w.heap.size w w' := by
  have b2 : Below w.heap.size w ((w.alloc (.cells #[.slice A n c, .slice R m d, .slice K p q] 50)).alloc (.cells #[.slice A' n' c', .slice R' m' d', .slice K' p' q'] 50)) := ((Below.refl w.heap.size w).alloc (Nat.le_refl _) _).alloc (by simp) _
  have x2 := hx.up b2
  have y2 := hy.up b2
  have q1 := (Rw.new w 50 #[.slice A n c, .slice R m d, .slice K p q]).alloc (.cells #[.slice A' n' c', .slice R' m' d', .slice K' p' q'] 50)
  have q2 := Rw.new (w.alloc (.cells #[.slice A n c, .slice R m d, .slice K p q] 50)) 50 #[.slice A' n' c', .slice R' m' d', .slice K' p' q']
  simp only [World.size_alloc] at q2
  have HB := Lib.hid hb
  have HB' := Lib.hid hb'
  obtain ⟨v, hv⟩ : ∃ v, decide (x = y) = v := ⟨_, rfl⟩
  have HV := Lib.hid hv
  have HR := Lib.hid (show decide (x = y ∧ l = l') = (v && decide (l = l')) by rw [← hv, Bool.decide_and])
  clear hb hb' hv
  go_enter Try.func41, Try.ntmps41
  go_wp2_with fail
  refine (eqHeap_any _ _ _ _ _ _ _ _ _ _ _ _ x y _ x2 y2 hn hm hn' hm' HB.out HB'.out).mono ?_
  rw [HV.out]
  rintro e w3 ⟨rfl, b3⟩
  replace q1 := q1.keep b3 q1.lt
  replace q2 := q2.keep b3 q2.lt
  replace b2 := b2.trans (b3.mono b2.size)
  have z1 : w3.cell? ⟨w.heap.size, 2, none⟩ = some (.slice K p q) := q1.cell 2
  have z2 : w3.cell? ⟨w.heap.size + 1, 2, none⟩ = some (.slice K' p' q') := q2.cell 2
  have i1 := hkx.up b2
  have i2 := hky.up b2
  clear x2 y2 b3
  cases v
  · go_wp2_with fail
    go_ret
    exact ⟨by rw [HR.out]; rfl, b2⟩
  obtain ⟨v, hv⟩ : ∃ v, decide (l = l') = v := ⟨_, rfl⟩
  rw [hv] at HR
  have HV2 := Lib.hid hv
  clear hv
  go_wp2_with fail
  refine (eqIntS_any _ _ _ _ _ _ l l' _ i1 i2 hp hp').mono ?_
  rw [HV2.out]
  rintro e w4 ⟨rfl, b4⟩
  have bb4 := b2.trans (b4.mono b2.size)
  clear z1 z2
  cases v
  · go_wp2_with fail
    go_ret
    exact ⟨by rw [HR.out]; rfl, bb4⟩
  · go_wp2_with fail
    go_ret
    exact ⟨by rw [HR.out]; rfl, bb4⟩

def sizeC (h : Hp) (l : List Int) : Nat := sizeH h + l.length
set_option maxHeartbeats 2000000 in
theorem szCounted_any (A R K : Option Addr) (n c m d p q : Nat) (h : Hp) (l : List Int) (z : Int) (w : World) (hs : HS w w.heap.size A n R m h) (hk : IS w w.heap.size K p l) (h0 : 0 ≤ z) (h1 : z ≤ 1099511627776) (hn : n ≤ 9223372036854775807) (hm : m ≤ 9223372036854775807) (hp : p ≤ 9223372036854775807) (hb : ∀ cl ∈ h.cs, cl.r.length ≤ 9223372036854775807) :
    Calls Try.prog 39 #[ctV A n c R m d K p q, .int .i64 z] w fun e w' => e = .returned (.int .i64 (leftOf z (sizeC h l))) ∧ Below w.heap.size w w' := by
  have hkl := hk.1
  have b1 : Below w.heap.size w (w.alloc (.cells #[.slice A n c, .slice R m d, .slice K p q] 57)) := (Below.refl _ _).alloc (Nat.le_refl _) _
  have s1 := hs.up b1
  have q1 := Rw.new w 57 #[.slice A n c, .slice R m d, .slice K p q]
  have HB := Lib.hid hb
  clear hb
  go_enter Try.func39, Try.ntmps39
  go_wp2_with fail
  refine (szHeap_any _ _ _ _ _ _ h _ _ s1 h0 h1 hn hm HB.out).mono ?_
  by_cases hz : (sizeH h : Int) ≤ z
  · have e1 : leftOf z (sizeH h) = z - sizeH h := by rw [leftOf, if_pos hz]
    rw [e1]
    obtain ⟨y, hy⟩ : ∃ y, z - (sizeH h : Int) = y := ⟨_, rfl⟩
    rw [hy]
    have hy0 : 0 ≤ y := by omega
    have hy1 : decide (y < 0) = false := decide_eq_false (by omega)
    have hy2 : y ≤ 1099511627776 := by omega
    rintro e w2 ⟨rfl, b2⟩
    replace q1 := q1.keep b2 q1.lt
    replace b1 := b1.trans (b2.mono b1.size)
    have z2 : w2.cell? ⟨w.heap.size, 2, none⟩ = some (.slice K p q) := q1.cell 2
    have HR := Lib.hid (show leftOf z (sizeC h l) = if (p : Int) ≤ y then y - p else -1 by
      unfold leftOf sizeC
      by_cases hc : (p : Int) ≤ y
      · rw [if_pos (by omega), if_pos hc]; omega
      · rw [if_neg (by omega), if_neg hc])
    clear e1 hy hz b2
    go_wp2_with fail
    refine (szIntS_any _ _ _ _ _ hy0 hy2 hp).mono ?_
    rw [← HR.out]
    obtain ⟨u, hu⟩ : ∃ u, leftOf z (sizeC h l) = u := ⟨_, rfl⟩
    rw [hu] at HR ⊢
    have HU := Lib.hid hu
    rintro e w3 ⟨rfl, rfl⟩
    by_cases hu0 : u < 0
    · have hu2 : u = -1 := by
        have := HR.out
        split at this <;> omega
      have hu1 : decide (u < 0) = true := decide_eq_true hu0
      clear hu
      subst hu2
      go_wp2_with fail
      go_ret
      exact ⟨by rw [HU.out]; rfl, b1⟩
    · have hu1 : decide (u < 0) = false := decide_eq_false hu0
      clear hu hu0
      go_wp2_with fail
      go_ret
      exact ⟨by rw [HU.out]; rfl, b1⟩
  · have e1 : leftOf z (sizeH h) = -1 := by rw [leftOf, if_neg hz]
    rw [e1]
    have HR := Lib.hid (show leftOf z (sizeC h l) = -1 by
      unfold leftOf sizeC
      rw [if_neg (by omega)])
    rintro e w2 ⟨rfl, b2⟩
    replace b1 := b1.trans (b2.mono b1.size)
    clear e1 hz
    go_wp2_with fail
    go_ret
    exact ⟨by rw [HR.out]; rfl, b1⟩

end Go.Proofs.Ytijgfpcpkmpdpaa
