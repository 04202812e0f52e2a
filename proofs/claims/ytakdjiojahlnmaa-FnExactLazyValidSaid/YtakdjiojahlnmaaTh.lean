/- What toLazy of the exact laws returns. No conditions. -/
import Derived.Test.YtakdjiojahlnmaaTb
import Derived.Test.YtakdjiojahlnmaaGd
import Derived.Test.YtakdjiojahlnmaaBo
import Derived.Deep.Cut
namespace Go.Proofs.Ytakdjiojahlnmaa
open Go.RowKit
set_option maxRecDepth 100000

set_option maxHeartbeats 4000000 in
theorem toLazy_any (A R K : Option Addr) (n c m d p q : Nat) (h : Hp) (l : List Bool) (i : Int) (w : World) (hs : HS w w.heap.size A n R m h) (hk : OS w w.heap.size K p l) (hn : n ≤ 1099511627776) (hm : m ≤ 1099511627776) (hp : p ≤ 1099511627776) (hb : ∀ cl ∈ h.cs, cl.r.length ≤ 1099511627776) :
    Calls Try.prog 36 #[lzV A n c R m d K p q i] w fun e w' => ∃ g1 g2 g3, e = .returned (lzV (some ⟨g1, 0, none⟩) n n (some ⟨g2, 0, none⟩) m m (some ⟨g3, 0, none⟩) p p i) ∧ OwnLz w' w.heap.size (.slice (some ⟨g1, 0, none⟩) n n) (.slice (some ⟨g2, 0, none⟩) m m) (.slice (some ⟨g3, 0, none⟩) p p) h l ∧ Below w.heap.size w w' := by
  have b3 : Below w.heap.size w (((w.alloc (.cells #[.slice A n c, .slice R m d, .slice K p q, .int .i64 i] 57)).alloc (.cells #[.slice none 0 0, .slice none 0 0, .slice none 0 0, .int .i64 0] 30)).alloc (.cells #[.slice none 0 0, .slice none 0 0, .slice none 0 0, .int .i64 0] 30)) := (((Below.refl w.heap.size w).alloc (Nat.le_refl _) _).alloc (by simp) _).alloc (by simp; omega) _
  have i3 := hs.up b3
  have k3 := hk.up b3
  have r0 := ((Rw.new w 57 #[.slice A n c, .slice R m d, .slice K p q, .int .i64 i]).alloc (.cells #[.slice none 0 0, .slice none 0 0, .slice none 0 0, .int .i64 0] 30)).alloc (.cells #[.slice none 0 0, .slice none 0 0, .slice none 0 0, .int .i64 0] 30)
  have r1 := (Rw.new (w.alloc (.cells #[.slice A n c, .slice R m d, .slice K p q, .int .i64 i] 57)) 30 #[.slice none 0 0, .slice none 0 0, .slice none 0 0, .int .i64 0]).alloc (.cells #[.slice none 0 0, .slice none 0 0, .slice none 0 0, .int .i64 0] 30)
  have r2 := Rw.new ((w.alloc (.cells #[.slice A n c, .slice R m d, .slice K p q, .int .i64 i] 57)).alloc (.cells #[.slice none 0 0, .slice none 0 0, .slice none 0 0, .int .i64 0] 30)) 30 #[.slice none 0 0, .slice none 0 0, .slice none 0 0, .int .i64 0]
  simp only [World.size_alloc] at r1 r2
  have HB := Lib.hid hb
  clear hb
  go_enter Try.func36, Try.ntmps36
  go_upto_region 2 with fail
  generalize ((w.alloc (.cells #[.slice A n c, .slice R m d, .slice K p q, .int .i64 i] 57)).alloc (.cells #[.slice none 0 0, .slice none 0 0, .slice none 0 0, .int .i64 0] 30)).alloc (.cells #[.slice none 0 0, .slice none 0 0, .slice none 0 0, .int .i64 0] 30) = w3 at b3 i3 k3 r0 r1 r2 ⊢
  have x0 : w3.cell? ⟨w.heap.size, 0, none⟩ = some (.slice A n c) := r0.cell 0
  have x1 : w3.cell? ⟨w.heap.size, 1, none⟩ = some (.slice R m d) := r0.cell 1
  have hbase := r2.lt
  go_wp2_with fail
  refine (toHeap_any _ _ _ _ _ _ h _ i3 hn hm HB.out).mono ?_
  rintro e w4 ⟨g1, g2, rfl, oh, b4⟩
  replace r0 := r0.keep b4 r0.lt
  replace r1 := r1.keep b4 r1.lt
  replace r2 := r2.keep b4 r2.lt
  replace k3 := k3.up b4
  have bb4 := b3.trans (b4.mono b3.size)
  have hz3 := b3.size
  have hz4 := b4.size
  obtain ⟨G, hG⟩ : ∃ G, w.heap.size = G := ⟨_, rfl⟩
  have HG := Lib.hid hG
  rw [hG] at r0 r1 r2 bb4 hz3 hbase ⊢
  have u0 : w4.cell? ⟨G + 1 + 1, 0, none⟩ = some (.slice none 0 0) := r2.cell 0
  have u1 : w4.cell? ⟨G + 1 + 1, 1, none⟩ = some (.slice none 0 0) := r2.cell 1
  have f0 : w4.frozen? ⟨G + 1 + 1, 0, none⟩ = false := r2.frozen 0
  have f1 : w4.frozen? ⟨G + 1 + 1, 1, none⟩ = false := r2.frozen 1
  obtain ⟨rvs, own⟩ := oh
  have ap := own.apart_below hbase
  have own2 := (own.far (put_any w4 (G + 1 + 1) 0 (.slice (some ⟨g1, 0, none⟩) n n)) ap).far (put_any _ (G + 1 + 1) 1 (.slice (some ⟨g2, 0, none⟩) m m)) ap
  have q0 := (r0.other (show G ≠ G + 1 + 1 by omega) (i := 0) (.slice (some ⟨g1, 0, none⟩) n n)).other (show G ≠ G + 1 + 1 by omega) (i := 1) (.slice (some ⟨g2, 0, none⟩) m m)
  have q1 := (r1.other (show G + 1 ≠ G + 1 + 1 by omega) (i := 0) (.slice (some ⟨g1, 0, none⟩) n n)).other (show G + 1 ≠ G + 1 + 1 by omega) (i := 1) (.slice (some ⟨g2, 0, none⟩) m m)
  have q2 := (r2.put 0 (.slice (some ⟨g1, 0, none⟩) n n)).put 1 (.slice (some ⟨g2, 0, none⟩) m m)
  have b5 := (bb4.setCell (p := ⟨G + 1 + 1, 0, none⟩) (by show G ≤ G + 1 + 1; omega) (.slice (some ⟨g1, 0, none⟩) n n)).setCell (p := ⟨G + 1 + 1, 1, none⟩) (by show G ≤ G + 1 + 1; omega) (.slice (some ⟨g2, 0, none⟩) m m)
  have hk5 : OS ((w4.setCell ⟨G + 1 + 1, 0, none⟩ (.slice (some ⟨g1, 0, none⟩) n n)).setCell ⟨G + 1 + 1, 1, none⟩ (.slice (some ⟨g2, 0, none⟩) m m)) ((w4.setCell ⟨G + 1 + 1, 0, none⟩ (.slice (some ⟨g1, 0, none⟩) n n)).setCell ⟨G + 1 + 1, 1, none⟩ (.slice (some ⟨g2, 0, none⟩) m m)).heap.size K p l := by
    rw [hG] at hk
    exact (hk.below b5).more (by simp; omega)
  have hz45 : ((w4.setCell ⟨G + 1 + 1, 0, none⟩ (.slice (some ⟨g1, 0, none⟩) n n)).setCell ⟨G + 1 + 1, 1, none⟩ (.slice (some ⟨g2, 0, none⟩) m m)).heap.size = w4.heap.size := by simp
  clear x0 x1 r0 r1 r2 i3 k3 b3 b4 own bb4 ap
  go_upto_region 3 with fail
  generalize (w4.setCell ⟨G + 1 + 1, 0, none⟩ (.slice (some ⟨g1, 0, none⟩) n n)).setCell ⟨G + 1 + 1, 1, none⟩ (.slice (some ⟨g2, 0, none⟩) m m) = w5 at own2 q0 q1 q2 b5 hk5 hz45 ⊢
  have x2 : w5.cell? ⟨G, 2, none⟩ = some (.slice K p q) := q0.cell 2
  clear u0 u1 f0 f1
  go_wp2_with fail
  refine (toBoolS_any _ _ _ l _ hk5 hp).mono ?_
  rintro e w6 ⟨rfl, o6, b6⟩
  have H6 := own2.lazy b6 o6 (by omega)
  have t1 := q1.keep b6 q1.lt
  have t2 := q2.keep b6 q2.lt
  have bb6 := b5.trans (b6.mono (by have := b5.size; have := HG.out; omega))
  have hz5 := b5.size
  generalize w5.heap.size = g3 at H6 ⊢
  have T : (Rw w6 (G + 1 + 1) 30 #[.slice (some ⟨g1, 0, none⟩) n n, .slice (some ⟨g2, 0, none⟩) m m, .slice none 0 0, .int .i64 0]) := t2
  have S1 : Rw w6 (G + 1) 30 #[.slice none 0 0, .slice none 0 0, .slice none 0 0, .int .i64 0] := t1
  have v2 : w6.cell? ⟨G + 1 + 1, 2, none⟩ = some (.slice none 0 0) := T.cell 2
  have f2 : w6.frozen? ⟨G + 1 + 1, 2, none⟩ = false := T.frozen 2
  have T2 := T.put 2 (.slice (some ⟨g3, 0, none⟩) p p)
  have S2 := S1.other (show G + 1 ≠ G + 1 + 1 by omega) (i := 2) (.slice (some ⟨g3, 0, none⟩) p p)
  have own3 := H6.put (H6.apart_below hbase) 2 (.slice (some ⟨g3, 0, none⟩) p p)
  have b7 := bb6.setCell (p := ⟨G + 1 + 1, 2, none⟩) (by show G ≤ G + 1 + 1; omega) (.slice (some ⟨g3, 0, none⟩) p p)
  have q06 := q0.keep b6 q0.lt
  have Q0 := q06.other (show G ≠ G + 1 + 1 by omega) (i := 2) (.slice (some ⟨g3, 0, none⟩) p p)
  clear own2 q0 q1 q2 hk5 x2 b5 b6 o6 H6 t1 t2 bb6 T S1 q06
  go_upto_region 4 with fail
  generalize w6.setCell ⟨G + 1 + 1, 2, none⟩ (.slice (some ⟨g3, 0, none⟩) p p) = w7 at T2 S2 own3 b7 Q0 ⊢
  have x3 : w7.cell? ⟨G, 3, none⟩ = some (.int .i64 i) := Q0.cell 3
  have v3 : w7.cell? ⟨G + 1 + 1, 3, none⟩ = some (.int .i64 0) := T2.cell 3
  have f3 : w7.frozen? ⟨G + 1 + 1, 3, none⟩ = false := T2.frozen 3
  have T3 := T2.put 3 (.int .i64 i)
  have S3 := S2.other (show G + 1 ≠ G + 1 + 1 by omega) (i := 3) (.int .i64 i)
  have own4 := own3.put (own3.apart_below hbase) 3 (.int .i64 i)
  have b8 := b7.setCell (p := ⟨G + 1 + 1, 3, none⟩) (by show G ≤ G + 1 + 1; omega) (.int .i64 i)
  clear T2 S2 own3 b7 Q0
  go_upto_region 5 with fail
  generalize w7.setCell ⟨G + 1 + 1, 3, none⟩ (.int .i64 i) = w8 at T3 S3 own4 b8 ⊢
  clear x3 v3 f3 v2 f2
  have y0 : w8.cell? ⟨G + 1 + 1, 0, none⟩ = some (.slice (some ⟨g1, 0, none⟩) n n) := T3.cell 0
  have y1 : w8.cell? ⟨G + 1 + 1, 1, none⟩ = some (.slice (some ⟨g2, 0, none⟩) m m) := T3.cell 1
  have y2 : w8.cell? ⟨G + 1 + 1, 2, none⟩ = some (.slice (some ⟨g3, 0, none⟩) p p) := T3.cell 2
  have y3 : w8.cell? ⟨G + 1 + 1, 3, none⟩ = some (.int .i64 i) := T3.cell 3
  have rf0 : w8.frozen? ⟨G + 1, 0, none⟩ = false := S3.frozen 0
  have rc0 : w8.cell? ⟨G + 1, 0, none⟩ = some (.slice none 0 0) := S3.cell 0
  have rf1 : w8.frozen? ⟨G + 1, 1, none⟩ = false := S3.frozen 1
  have rc1 : w8.cell? ⟨G + 1, 1, none⟩ = some (.slice none 0 0) := S3.cell 1
  have rf2 : w8.frozen? ⟨G + 1, 2, none⟩ = false := S3.frozen 2
  have rc2 : w8.cell? ⟨G + 1, 2, none⟩ = some (.slice none 0 0) := S3.cell 2
  have rf3 : w8.frozen? ⟨G + 1, 3, none⟩ = false := S3.frozen 3
  have rc3 : w8.cell? ⟨G + 1, 3, none⟩ = some (.int .i64 0) := S3.cell 3
  have q4 := (((S3.put 0 (.slice (some ⟨g1, 0, none⟩) n n)).put 1 (.slice (some ⟨g2, 0, none⟩) m m)).put 2 (.slice (some ⟨g3, 0, none⟩) p p)).put 3 (.int .i64 i)
  have r8 : ((((w8.setCell ⟨G + 1, 0, none⟩ (.slice (some ⟨g1, 0, none⟩) n n)).setCell ⟨G + 1, 1, none⟩ (.slice (some ⟨g2, 0, none⟩) m m)).setCell ⟨G + 1, 2, none⟩ (.slice (some ⟨g3, 0, none⟩) p p)).setCell ⟨G + 1, 3, none⟩ (.int .i64 i)).cell? ⟨G + 1, 0, none⟩ = some (.slice (some ⟨g1, 0, none⟩) n n) := q4.cell 0
  have r9 : ((((w8.setCell ⟨G + 1, 0, none⟩ (.slice (some ⟨g1, 0, none⟩) n n)).setCell ⟨G + 1, 1, none⟩ (.slice (some ⟨g2, 0, none⟩) m m)).setCell ⟨G + 1, 2, none⟩ (.slice (some ⟨g3, 0, none⟩) p p)).setCell ⟨G + 1, 3, none⟩ (.int .i64 i)).cell? ⟨G + 1, 1, none⟩ = some (.slice (some ⟨g2, 0, none⟩) m m) := q4.cell 1
  have r10 : ((((w8.setCell ⟨G + 1, 0, none⟩ (.slice (some ⟨g1, 0, none⟩) n n)).setCell ⟨G + 1, 1, none⟩ (.slice (some ⟨g2, 0, none⟩) m m)).setCell ⟨G + 1, 2, none⟩ (.slice (some ⟨g3, 0, none⟩) p p)).setCell ⟨G + 1, 3, none⟩ (.int .i64 i)).cell? ⟨G + 1, 2, none⟩ = some (.slice (some ⟨g3, 0, none⟩) p p) := q4.cell 2
  have r11 : ((((w8.setCell ⟨G + 1, 0, none⟩ (.slice (some ⟨g1, 0, none⟩) n n)).setCell ⟨G + 1, 1, none⟩ (.slice (some ⟨g2, 0, none⟩) m m)).setCell ⟨G + 1, 2, none⟩ (.slice (some ⟨g3, 0, none⟩) p p)).setCell ⟨G + 1, 3, none⟩ (.int .i64 i)).cell? ⟨G + 1, 3, none⟩ = some (.int .i64 i) := q4.cell 3
  rw [← HG.out] at b8
  have D := Lib.hid (OwnLz.out (w := w) (g := G + 1) i ⟨rvs, own4⟩ (by omega) b8 (by have := HG.out; omega))
  clear q4 T3 S3 own4 b8
  go_wp2_with fail
  have hGG := HG.out
  subst hGG
  exact bodyPost_ret (v := lzV (some ⟨g1, 0, none⟩) n n (some ⟨g2, 0, none⟩) m m (some ⟨g3, 0, none⟩) p p i) (by simp [results, Try.results36, go_sem, *]) rfl ⟨g1, g2, g3, rfl, D.out.1, D.out.2⟩
end Go.Proofs.Ytakdjiojahlnmaa
