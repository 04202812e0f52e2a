/- What toHeap of the exact laws returns: for every heap. No conditions. -/
import Derived.Test.YtkdoolilggkjpaaHi
namespace Go.Proofs.Ytkdoolilggkjpaa
open Go.RowKit

theorem OwnHx.withRoots {w : World} {base base2 : Nat} {vc vr : Value} {rvs : List Value} {cs : List Cl} {rt : List Int} (S : OwnHx w base vc (.slice none 0 0) rvs ⟨cs, []⟩) (o : OwnI w base2 vr rt) (hb : base ≤ base2) (hf : ∀ v ∈ vc :: rvs, ∀ k, v.ownBlock = some k → k < base2) : OwnHx w base vc vr rvs ⟨cs, rt⟩ := by
  have hs := S.sep
  unfold Sep at hs
  rw [List.pairwise_cons, List.pairwise_cons] at hs
  have hne : ∀ v ∈ vc :: rvs, v.ownBlock = none ∨ v.ownBlock ≠ vr.ownBlock := fun v hv => by
    cases e : v.ownBlock with
    | none => exact .inl rfl
    | some k =>
      right
      intro e'
      have h1 := hf v hv k e
      have h2 := (World.ownsRow.lt o k e'.symm).1
      omega
  refine ⟨S.len, S.row, S.refs, o.base hb, ?_⟩
  unfold Sep
  rw [List.pairwise_cons, List.pairwise_cons]
  refine ⟨fun v hv => ?_, fun v hv => sep_back (hne v (by simp [hv])), hs.2.2⟩
  rcases List.mem_cons.1 hv with rfl | hv
  · exact hne vc (by simp)
  · exact hs.1 v (by simp [hv])

set_option maxHeartbeats 2000000 in
theorem toHeap_any (A R : Option Addr) (n c m d : Nat) (h : Hp) (w : World) (hs : HS w w.heap.size A n R m h) (hn : n ≤ 1099511627776) (hm : m ≤ 1099511627776) (hb : ∀ cl ∈ h.cs, cl.r.length ≤ 1099511627776) :
    Calls Try.prog 29 #[heapV A n c R m d] w fun e w' => ∃ g1 g2, e = .returned (heapV (some ⟨g1, 0, none⟩) n n (some ⟨g2, 0, none⟩) m m) ∧ OwnH w' w.heap.size (.slice (some ⟨g1, 0, none⟩) n n) (.slice (some ⟨g2, 0, none⟩) m m) h ∧ Below w.heap.size w w' := by
  have b3 : Below w.heap.size w (((w.alloc (.cells #[.slice A n c, .slice R m d] 44)).alloc (.cells #[.slice none 0 0, .slice none 0 0] 26)).alloc (.cells #[.slice none 0 0, .slice none 0 0] 26)) := (((Below.refl w.heap.size w).alloc (Nat.le_refl _) _).alloc (by simp) _).alloc (by simp; omega) _
  have i3 := hs.up b3
  have r0 := ((Rw.new w 44 #[.slice A n c, .slice R m d]).alloc (.cells #[.slice none 0 0, .slice none 0 0] 26)).alloc (.cells #[.slice none 0 0, .slice none 0 0] 26)
  have r1 := (Rw.new (w.alloc (.cells #[.slice A n c, .slice R m d] 44)) 26 #[.slice none 0 0, .slice none 0 0]).alloc (.cells #[.slice none 0 0, .slice none 0 0] 26)
  have r2 := Rw.new ((w.alloc (.cells #[.slice A n c, .slice R m d] 44)).alloc (.cells #[.slice none 0 0, .slice none 0 0] 26)) 26 #[.slice none 0 0, .slice none 0 0]
  have hsz : (((w.alloc (.cells #[.slice A n c, .slice R m d] 44)).alloc (.cells #[.slice none 0 0, .slice none 0 0] 26)).alloc (.cells #[.slice none 0 0, .slice none 0 0] 26)).heap.size = w.heap.size + 3 := by simp
  simp only [World.size_alloc] at r1 r2
  have HB := Lib.hid hb
  clear hb
  go_enter Try.func29, Try.ntmps29
  go_wp2_with fail
  refine (toCellS_any _ _ _ h.cs _ i3.cells hn HB.out).mono ?_
  rw [hsz]
  rintro e w1 ⟨rvs, rfl, S, b1⟩
  have c0 := r0.keep b1 (by omega)
  have c1 := r1.keep b1 (by omega)
  have c2 := r2.keep b1 (by omega)
  have bb1 := b3.trans (b1.mono (by omega))
  have x0 : w1.cell? ⟨w.heap.size + 1 + 1, 0, none⟩ = some (.slice none 0 0) := c2.cell 0
  have x1 : w1.cell? ⟨w.heap.size + 1 + 1, 1, none⟩ = some (.slice none 0 0) := c2.cell 1
  have x3 := c2.frozen 0
  -- the cells are put into the box
  have S2 := S.far (put_any w1 (w.heap.size + 1 + 1) 0 (.slice (some ⟨w.heap.size + 3, 0, none⟩) n n)) (S.apart_below (by omega))
  have e0 := Rw.other (w := w1) c0 (show w.heap.size ≠ w.heap.size + 1 + 1 by omega) (i := 0) (.slice (some ⟨w.heap.size + 3, 0, none⟩) n n)
  have e1 := Rw.other (w := w1) c1 (show w.heap.size + 1 ≠ w.heap.size + 1 + 1 by omega) (i := 0) (.slice (some ⟨w.heap.size + 3, 0, none⟩) n n)
  have e2 := c2.put 0 (.slice (some ⟨w.heap.size + 3, 0, none⟩) n n)
  have bb2 := bb1.setCell (p := ⟨w.heap.size + 1 + 1, 0, none⟩) (by simp; omega) (.slice (some ⟨w.heap.size + 3, 0, none⟩) n n)
  have hsz1 := b1.size
  have hsz2 : (w1.setCell ⟨w.heap.size + 1 + 1, 0, none⟩ (.slice (some ⟨w.heap.size + 3, 0, none⟩) n n)).heap.size = w1.heap.size := by simp
  obtain ⟨w2, hw2⟩ : ∃ w2, w1.setCell ⟨w.heap.size + 1 + 1, 0, none⟩ (.slice (some ⟨w.heap.size + 3, 0, none⟩) n n) = w2 := ⟨_, rfl⟩
  rw [hw2] at S2 e0 e1 e2 bb2 hsz2
  have hs2 := (hs.below bb2).more bb2.size
  have z1 : w2.cell? ⟨w.heap.size, 1, none⟩ = some (.slice R m d) := e0.cell 1
  have e2' : Rw w2 (w.heap.size + 1 + 1) 26 #[.slice (some ⟨w.heap.size + 3, 0, none⟩) n n, .slice none 0 0] := e2
  clear c0 c1 c2 S b1 b3 bb1 r0 r1 r2 i3 e0 e2
  go_wp2_with fail
  refine (toIntS_any _ _ _ h.rt _ hs2.roots hm).mono ?_
  rintro e w3 ⟨rfl, o3, b3⟩
  have S3 := S2.below b3 (Nat.le_refl _)
  have f1 := e1.keep b3 e1.lt
  have f2 := e2'.keep b3 e2'.lt
  have bb3 := bb2.trans (b3.mono bb2.size)
  have H3 := S3.withRoots o3 (by omega) (fun v hv k hk => (S2.blocks (v := v) (by simp only [List.mem_cons] at hv ⊢; rcases hv with h | h <;> simp [h]) hk).2)
  have hge : w.heap.size + 3 ≤ w2.heap.size := by omega
  obtain ⟨g2, hg2⟩ : ∃ g2, w2.heap.size = g2 := ⟨_, rfl⟩
  rw [hg2] at H3 hge
  rw [hg2]
  have y0 : w3.cell? ⟨w.heap.size + 1 + 1, 0, none⟩ = some (.slice (some ⟨w.heap.size + 3, 0, none⟩) n n) := f2.cell 0
  have y1 : w3.cell? ⟨w.heap.size + 1 + 1, 1, none⟩ = some (.slice none 0 0) := f2.cell 1
  have y2 := f2.frozen 1
  -- the roots are put into the box
  have H4 := H3.far (put_any w3 (w.heap.size + 1 + 1) 1 (.slice (some ⟨g2, 0, none⟩) m m)) (H3.apart_below (by omega))
  have k1 := Rw.other (w := w3) f1 (show w.heap.size + 1 ≠ w.heap.size + 1 + 1 by omega) (i := 1) (.slice (some ⟨g2, 0, none⟩) m m)
  have k2 : Rw (w3.setCell ⟨w.heap.size + 1 + 1, 1, none⟩ (.slice (some ⟨g2, 0, none⟩) m m)) (w.heap.size + 1 + 1) 26 #[.slice (some ⟨w.heap.size + 3, 0, none⟩) n n, .slice (some ⟨g2, 0, none⟩) m m] := f2.put 1 _
  have bb4 := bb3.setCell (p := ⟨w.heap.size + 1 + 1, 1, none⟩) (by simp; omega) (.slice (some ⟨g2, 0, none⟩) m m)
  obtain ⟨w4, hw4⟩ : ∃ w4, w3.setCell ⟨w.heap.size + 1 + 1, 1, none⟩ (.slice (some ⟨g2, 0, none⟩) m m) = w4 := ⟨_, rfl⟩
  rw [hw4] at H4 k1 k2 bb4
  have u0 : w4.cell? ⟨w.heap.size + 1 + 1, 0, none⟩ = some (.slice (some ⟨w.heap.size + 3, 0, none⟩) n n) := k2.cell 0
  have u1 : w4.cell? ⟨w.heap.size + 1 + 1, 1, none⟩ = some (.slice (some ⟨g2, 0, none⟩) m m) := k2.cell 1
  have v0 : w4.cell? ⟨w.heap.size + 1, 0, none⟩ = some (.slice none 0 0) := k1.cell 0
  have v1 : w4.cell? ⟨w.heap.size + 1, 1, none⟩ = some (.slice none 0 0) := k1.cell 1
  have v2 := k1.frozen 0
  have v3 := k1.frozen 1
  have k3 := (k1.put 0 (.slice (some ⟨w.heap.size + 3, 0, none⟩) n n)).put 1 (.slice (some ⟨g2, 0, none⟩) m m)
  have q0 := k3.cell 0
  have q1 := k3.cell 1
  have bb5 := (bb4.setCell (p := ⟨w.heap.size + 1, 0, none⟩) (by simp) (.slice (some ⟨w.heap.size + 3, 0, none⟩) n n)).setCell (p := ⟨w.heap.size + 1, 1, none⟩) (by simp) (.slice (some ⟨g2, 0, none⟩) m m)
  have ap := H4.apart_below (b := w.heap.size + 1) (by omega)
  have H5 := ((H4.far (put_any w4 (w.heap.size + 1) 0 (.slice (some ⟨w.heap.size + 3, 0, none⟩) n n)) ap).far (put_any _ (w.heap.size + 1) 1 (.slice (some ⟨g2, 0, none⟩) m m)) ap).base (show w.heap.size ≤ w.heap.size + 3 by omega)
  simp at q0 q1
  have OH := Lib.hid H5
  clear S2 S3 H3 H4 H5 e1 e2' f1 f2 k1 k2 k3 o3 b3 bb2 bb3 bb4 ap hs2
  go_wp2_with fail
  exact bodyPost_ret (v := heapV (some ⟨w.heap.size + 3, 0, none⟩) n n (some ⟨g2, 0, none⟩) m m) (by simp [results, Try.results29, go_sem, *]) rfl ⟨_, _, rfl, ⟨_, OH.out⟩, bb5⟩
end Go.Proofs.Ytkdoolilggkjpaa
