/- The laws' sameHeap returns true at two readings of one heap. No conditions. -/
import Derived.Test.YtakdjiojahlnmaaHc
import Derived.Test.YtakdjiojahlnmaaGb
import Derived.Deep.QuietTactic
import Derived.Deep.Cut
namespace Go.Proofs.Ytakdjiojahlnmaa
open Go.RowKit

/-- worlds in which what was there is as it was -/
def InW (w0 w : World) : Prop := Below w0.heap.size w0 w
theorem InW.cell {w0 w : World} (h : InW w0 w) {p : Addr} {v : Value} (hp : p.block < w0.heap.size) (hc : w0.cell? p = some v) : w.cell? p = some v := (Below.cell h hp).trans hc
theorem InW.call {w0 w w' : World} (h : InW w0 w) (hb : Below w.heap.size w w') : InW w0 w' := Below.trans h (hb.mono (Below.size h))

set_option maxRecDepth 100000 in
set_option maxHeartbeats 4000000 in
theorem sameHeap_same (A R A' R' : Option Addr) (n c m d c' d' : Nat) (h : Hp) (w : World) (hs : HS w w.heap.size A n R m h) (hs' : HS w w.heap.size A' n R' m h) (hn : n ≤ 1000000) (hm : m ≤ 1000000) (hb : ∀ cl ∈ h.cs, cl.r.length ≤ 1000000) :
    Calls Try.prog 16 #[heapV A n c R m d, heapV A' n c' R' m d'] w fun e w' => e = .returned (.bool true) ∧ Below w.heap.size w w' := by
  have b2 : Below w.heap.size w ((w.alloc (.cells #[.slice A n c, .slice R m d] 26)).alloc (.cells #[.slice A' n c', .slice R' m d'] 26)) := ((Below.refl w.heap.size w).alloc (Nat.le_refl _) _).alloc (by simp) _
  have q1 := (Rw.new w 26 #[.slice A n c, .slice R m d]).alloc (.cells #[.slice A' n c', .slice R' m d'] 26)
  have q2 := Rw.new (w.alloc (.cells #[.slice A n c, .slice R m d] 26)) 26 #[.slice A' n c', .slice R' m d']
  rw [World.size_alloc] at q2
  have hne : ((n : Int) != n) = false := by simp
  have HB := Lib.hid hb
  clear hb
  go_enter Try.func16, Try.ntmps16
  go_upto_region 1 with fail
  generalize (w.alloc (.cells #[.slice A n c, .slice R m d] 26)).alloc (.cells #[.slice A' n c', .slice R' m d'] 26) = w0 at b2 q1 q2 ⊢
  have y0 : w0.cell? ⟨w.heap.size, 0, none⟩ = some (.slice A n c) := q1.cell 0
  have y1 : w0.cell? ⟨w.heap.size + 1, 0, none⟩ = some (.slice A' n c') := q2.cell 0
  go_wp2_with fail
  clear y0 y1
  go_loopw [5] (fun i wr => ∃ k : Nat, k ≤ n ∧ i = .int .i64 k ∧ Below w0.heap.size w0 wr) (fun i _ => n - (intOf i).toNat)
  case atStart => exact ⟨0, Nat.zero_le _, rfl, Below.refl _ _⟩
  case round =>
    obtain ⟨k, hk, rfl, bw⟩ := hrel
    have bb := b2.trans (bw.mono b2.size)
    have r1 := q1.keep bw q1.lt
    have r2 := q2.keep bw q2.lt
    have hx0 := r1.lt
    have hx1 := r2.lt
    have x0 : wr.cell? ⟨w.heap.size, 0, none⟩ = some (.slice A n c) := r1.cell 0
    have x1 : wr.cell? ⟨w.heap.size + 1, 0, none⟩ = some (.slice A' n c') := r2.cell 0
    by_cases hlt : k < n
    · obtain ⟨g, o, cl, A1, m1, cc, rfl, hg, hcl, d1, d2, d3, -, hi⟩ := (hs.cells.below bb).at_ hlt
      obtain ⟨g', o', cl', A1', m1', cc', rfl, hg', hcl', d1', d2', d3', -, hi'⟩ := (hs'.cells.below bb).at_ hlt
      rw [hcl] at hcl'
      injection hcl' with hcl'
      subst hcl'
      obtain rfl : m1 = m1' := hi.1.symm.trans hi'.1
      have hlt' : (k : Int) < n := by omega
      have hgw : g < wr.heap.size := by have := bb.size; omega
      have hgw' : g' < wr.heap.size := by have := bb.size; omega
      have hm1 : m1 ≤ 1000000 := by rw [← hi.1]; exact HB.out cl (List.mem_of_getElem? hcl)
      have j1 := hi.more bb.size
      have j2 := hi'.more bb.size
      have Ca := Lib.hid (fun (ww : World) (hw : InW wr ww) => show ww.cell? ⟨w.heap.size, 0, none⟩ = some (.slice (some ⟨g, o, none⟩) n c) from hw.cell (by show _ < wr.heap.size; first | exact hx0 | omega) x0)
      have Cb := Lib.hid (fun (ww : World) (hw : InW wr ww) => show ww.cell? ⟨w.heap.size + 1, 0, none⟩ = some (.slice (some ⟨g', o', none⟩) n c') from hw.cell (by show _ < wr.heap.size; first | exact hx1 | omega) x1)
      have Cc := Lib.hid (fun (ww : World) (hw : InW wr ww) => show ww.cell? ⟨g, o + k * 3, none⟩ = some (.bool cl.u) from hw.cell (by show _ < wr.heap.size; first | exact hgw | omega) d1)
      have Cd := Lib.hid (fun (ww : World) (hw : InW wr ww) => show ww.cell? ⟨g', o' + k * 3, none⟩ = some (.bool cl.u) from hw.cell (by show _ < wr.heap.size; first | exact hgw' | omega) d1')
      have Ce := Lib.hid (fun (ww : World) (hw : InW wr ww) => show ww.cell? ⟨g, o + k * 3 + 1, none⟩ = some (.int .i64 cl.d) from hw.cell (by show _ < wr.heap.size; first | exact hgw | omega) d2)
      have Cf := Lib.hid (fun (ww : World) (hw : InW wr ww) => show ww.cell? ⟨g', o' + k * 3 + 1, none⟩ = some (.int .i64 cl.d) from hw.cell (by show _ < wr.heap.size; first | exact hgw' | omega) d2')
      have Cg := Lib.hid (fun (ww : World) (hw : InW wr ww) => show ww.cell? ⟨g, o + k * 3 + 2, none⟩ = some (.slice A1 m1 cc) from hw.cell (by show _ < wr.heap.size; first | exact hgw | omega) d3)
      have Ch := Lib.hid (fun (ww : World) (hw : InW wr ww) => show ww.cell? ⟨g', o' + k * 3 + 2, none⟩ = some (.slice A1' m1 cc') from hw.cell (by show _ < wr.heap.size; first | exact hgw' | omega) d3')
      have CI := Lib.hid (fun w' (hw' : InW wr w') => (sameInts_any A1 A1' m1 m1 cc cc' cl.r cl.r w' ((j1.below hw').more (Below.size hw')) ((j2.below hw').more (Below.size hw')) (by omega) (by omega)).mono (R' := fun e w'' => e = .returned (.bool true) ∧ InW wr w'') fun e w'' hh => ⟨by rw [decide_eq_true rfl] at hh; exact hh.1, hw'.call hh.2⟩)
      have hdd : (cl.d != cl.d) = false := by simp
      have hnu : (!(cl.u == cl.u)) = false := by simp
      go_wp2_with fail
      clear d1 d2 d3 d1' d2' d3' x0 x1 hi hi' hcl
      cases hu : cl.u
      · rw [hu] at Cc Cd
        refine wp_region_quiet (C := InW wr) (by kernel_rfl) (by kernel_rfl) (show InW wr _ from (Below.refl _ _).drew) ?_
        repeat (
          refine wpQuiet_step (fun K hK => ?_)
          go_simp
          first
          | (refine hK _ ?_
             clear hK K)
          | ((with_reducible refine ⟨_, fun _ _ => rfl, hK _ ?_⟩)
             clear hK K)
          | ((with_reducible refine ⟨_, CI.out, hK _ ?_⟩)
             clear hK K)
          | (refine ⟨.slice (some ⟨g, o, none⟩) n c, fun w' hw' => ?_, hK _ ?_⟩
             · have hcw := Ca.out w' hw'
               go_simp
               done
             clear hK K)
          | (refine ⟨.slice (some ⟨g', o', none⟩) n c', fun w' hw' => ?_, hK _ ?_⟩
             · have hcw := Cb.out w' hw'
               go_simp
               done
             clear hK K)
          | (refine ⟨.bool false, fun w' hw' => ?_, hK _ ?_⟩
             · have hcw := Cc.out w' hw'
               go_simp
               done
             clear hK K)
          | (refine ⟨.bool false, fun w' hw' => ?_, hK _ ?_⟩
             · have hcw := Cd.out w' hw'
               go_simp
               done
             clear hK K)
          | (refine ⟨.int .i64 cl.d, fun w' hw' => ?_, hK _ ?_⟩
             · have hcw := Ce.out w' hw'
               go_simp
               done
             clear hK K)
          | (refine ⟨.int .i64 cl.d, fun w' hw' => ?_, hK _ ?_⟩
             · have hcw := Cf.out w' hw'
               go_simp
               done
             clear hK K)
          | (refine ⟨.slice A1 m1 cc, fun w' hw' => ?_, hK _ ?_⟩
             · have hcw := Cg.out w' hw'
               go_simp
               done
             clear hK K)
          | (refine ⟨.slice A1' m1 cc', fun w' hw' => ?_, hK _ ?_⟩
             · have hcw := Ch.out w' hw'
               go_simp
               done
             clear hK K)
          )
        refine wpQuiet_nil ?_
        intro w5 hw5
        have b5 : Below w0.heap.size w0 w5 := bw.trans ((show Below wr.heap.size wr w5 from hw5).mono bw.size)
        clear Ca Cb Cc Cd Ce Cf Cg Ch CI
        go_wp2_with fail
        go_roundw
        case rel => exact ⟨k + 1, by omega, by go_num, b5⟩
        case measure => simp [intOf]; omega
      · rw [hu] at Cc Cd
        refine wp_region_quiet (C := InW wr) (by kernel_rfl) (by kernel_rfl) (show InW wr _ from (Below.refl _ _).drew) ?_
        repeat (
          refine wpQuiet_step (fun K hK => ?_)
          go_simp
          first
          | (refine hK _ ?_
             clear hK K)
          | ((with_reducible refine ⟨_, fun _ _ => rfl, hK _ ?_⟩)
             clear hK K)
          | ((with_reducible refine ⟨_, CI.out, hK _ ?_⟩)
             clear hK K)
          | (refine ⟨.slice (some ⟨g, o, none⟩) n c, fun w' hw' => ?_, hK _ ?_⟩
             · have hcw := Ca.out w' hw'
               go_simp
               done
             clear hK K)
          | (refine ⟨.slice (some ⟨g', o', none⟩) n c', fun w' hw' => ?_, hK _ ?_⟩
             · have hcw := Cb.out w' hw'
               go_simp
               done
             clear hK K)
          | (refine ⟨.bool true, fun w' hw' => ?_, hK _ ?_⟩
             · have hcw := Cc.out w' hw'
               go_simp
               done
             clear hK K)
          | (refine ⟨.bool true, fun w' hw' => ?_, hK _ ?_⟩
             · have hcw := Cd.out w' hw'
               go_simp
               done
             clear hK K)
          | (refine ⟨.int .i64 cl.d, fun w' hw' => ?_, hK _ ?_⟩
             · have hcw := Ce.out w' hw'
               go_simp
               done
             clear hK K)
          | (refine ⟨.int .i64 cl.d, fun w' hw' => ?_, hK _ ?_⟩
             · have hcw := Cf.out w' hw'
               go_simp
               done
             clear hK K)
          | (refine ⟨.slice A1 m1 cc, fun w' hw' => ?_, hK _ ?_⟩
             · have hcw := Cg.out w' hw'
               go_simp
               done
             clear hK K)
          | (refine ⟨.slice A1' m1 cc', fun w' hw' => ?_, hK _ ?_⟩
             · have hcw := Ch.out w' hw'
               go_simp
               done
             clear hK K)
          )
        refine wpQuiet_nil ?_
        intro w5 hw5
        have b5 : Below w0.heap.size w0 w5 := bw.trans ((show Below wr.heap.size wr w5 from hw5).mono bw.size)
        clear Ca Cb Cc Cd Ce Cf Cg Ch CI
        go_wp2_with fail
        go_roundw
        case rel => exact ⟨k + 1, by omega, by go_num, b5⟩
        case measure => simp [intOf]; omega
    · obtain rfl : k = n := by omega
      have z0 : wr.cell? ⟨w.heap.size, 1, none⟩ = some (.slice R m d) := r1.cell 1
      have z1 : wr.cell? ⟨w.heap.size + 1, 1, none⟩ = some (.slice R' m d') := r2.cell 1
      have t1 := hs.roots.below bb
      have t2 := hs'.roots.below bb
      go_wp2_with fail
      refine (sameInts_any _ _ _ _ _ _ h.rt h.rt _ (t1.more bb.size) (t2.more bb.size) (by omega) (by omega)).mono ?_
      rw [decide_eq_true rfl]
      rintro e w5 ⟨rfl, b5⟩
      have bf := bb.trans (b5.mono bb.size)
      go_wp2_with fail
      go_ret
      exact ⟨rfl, bf⟩
end Go.Proofs.Ytakdjiojahlnmaa
