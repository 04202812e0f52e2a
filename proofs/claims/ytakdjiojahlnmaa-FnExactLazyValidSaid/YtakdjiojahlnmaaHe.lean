/- What the model's l7Reach and Reachable return: for every heap. -/
import Derived.Test.YtakdjiojahlnmaaHc
namespace Go.Proofs.Ytakdjiojahlnmaa
open Go.RowKit

/-- the work list's state: the marks in block g, the list in blocks of its own behind it, the heap's box -/
structure RS (w wr : World) (box : Array Value) (n : Nat) (lv : Value) (cs : List Cl) (rs : List Int) (outs : List Bool) (l : List Int) : Prop where
  own : OwnO wr w.heap.size (.slice (some ⟨w.heap.size + 1, 0, none⟩) n n) outs
  lst : OwnI wr (w.heap.size + 2) lv l
  box : Rw wr w.heap.size 26 box
  bel : Below w.heap.size w wr
  wk : Hps.Wk cs rs outs l
  big : w.heap.size + 2 ≤ wr.heap.size
theorem RS.draws {w wr : World} {box : Array Value} {n : Nat} {lv : Value} {cs : List Cl} {rs : List Int} {outs : List Bool} {l : List Int} (h : RS w wr box n lv cs rs outs l) (k : Nat) : RS w (wr.drewN k) box n lv cs rs outs l :=
  ⟨h.own, h.lst, h.box, below_drewN h.bel k, h.wk, h.big⟩
theorem RS.pre {w wr : World} {box : Array Value} {n : Nat} {lv : Value} {cs : List Cl} {rs : List Int} {outs : List Bool} {l : List Int} (h : RS w wr box n lv cs rs outs l) (y : Nat) : OwnI ((wr.setCell ⟨w.heap.size + 1, y, none⟩ (.bool true)).alloc (.cells #[.int .i64 y] 3)) (w.heap.size + 2) lv l := by
  refine World.ownsRow.alloc (h.lst.far (only_put (World.grownBy.refl _ _) y (.bool true)) ?_) _
  cases e : lv.ownBlock with
  | none => exact .inl rfl
  | some kk =>
    right
    intro e'
    injection e' with e'
    have := (World.ownsRow.lt h.lst kk e).1
    omega
/-- one more is marked and listed -/
theorem RS.mark {w wr w5 : World} {box : Array Value} {n y : Nat} {lv v5 : Value} {cs : List Cl} {rs : List Int} {outs : List Bool} {l : List Int} (h : RS w wr box n lv cs rs outs l) (hn : outs.length = n)
    (hy : outs[y]? = some false) (hr : Hps.Rch cs rs y)
    (ho : OwnI w5 (w.heap.size + 2) v5 (l ++ [(y : Int)])) (hg : ((wr.setCell ⟨w.heap.size + 1, y, none⟩ (.bool true)).alloc (.cells #[.int .i64 y] 3)).grownBy w5 lv.ownBlock) : RS w w5 box n v5 cs rs (outs.set y true) (l ++ [(y : Int)]) := by
  have hlv : ∀ k, lv.ownBlock = some k → w.heap.size + 2 ≤ k := fun k hk => (World.ownsRow.lt h.lst k hk).1
  have o1 := h.own.put' (j := y) hn true
  have o2 := World.ownsRow.alloc o1 (.cells #[.int .i64 y] 3)
  have o3 : OwnO w5 w.heap.size (.slice (some ⟨w.heap.size + 1, 0, none⟩) n n) (outs.set y true) := World.ownsRow.kept o2 hg (by
    right
    intro e
    have := hlv (w.heap.size + 1) e.symm
    omega)
  have b1 := (h.bel.setCell (p := ⟨w.heap.size + 1, y, none⟩) (by simp) (.bool true)).alloc (by simp; have := h.bel.size; omega) (.cells #[.int .i64 y] 3)
  refine ⟨o3, ho, ?_, b1.grown hg (by simp; have := h.bel.size; omega) (fun k hk => by have := hlv k hk; omega), h.wk.mark hy hr, ?_⟩
  · exact Rw.far ((Rw.other (w := wr) h.box (by omega) _).alloc _) hg (fun e => by have := hlv w.heap.size e.symm; omega)
  · have := hg.size
    have := h.big
    simp at *
    omega

theorem take_snocI {xs : List Int} {k : Nat} {x : Int} (h : xs[k]? = some x) : xs.take (k + 1) = xs.take k ++ [x] := by
  rw [List.take_add_one, h]
  rfl

set_option maxHeartbeats 4000000 in
theorem l7Reach_any (A R F : Option Addr) (n c m d q e : Nat) (h : Hp) (rs : List Int) (w : World) (hs : HS w w.heap.size A n R m h) (hf : IS w w.heap.size F q rs) (hn : n ≤ 1000000) (hq : q ≤ 1000000)
    (ho : Hps.okRefs h.cs rs = true) (hr : ∀ cl ∈ h.cs, Hps.okRefs h.cs cl.r = true) (hb : ∀ cl ∈ h.cs, cl.r.length ≤ 1000000) :
    Calls Try.prog 56 #[heapV A n c R m d, .slice F q e] w (GaveO w (Hps.reachL h.cs rs)) := by
  have hlc := hs.cells.1
  have hlr := hf.1
  have HO := Lib.hid ho
  have HRF := Lib.hid hr
  have HB := Lib.hid hb
  clear ho hr hb
  have hmk := makeO (w.alloc (.cells #[.slice A n c, .slice R m d] 26)) n (by omega)
  have st : RS w (((w.alloc (.cells #[.slice A n c, .slice R m d] 26)).alloc (.cells (Array.replicate n (.bool false)) 4)).alloc (.cells #[] 3)) #[.slice A n c, .slice R m d] n (.slice (some ⟨w.heap.size + 2, 0, none⟩) 0 0) h.cs rs (List.replicate n false) [] := by
    refine ⟨?_, ?_, ((Rw.new w _ _).alloc _).alloc _, (((Below.refl w.heap.size w).alloc (Nat.le_refl _) _).alloc (by simp) _).alloc (by simp; omega) _, by rw [← hlc]; exact Hps.Wk.start _ _, by simp⟩
    · have := own_madeO (w.alloc (.cells #[.slice A n c, .slice R m d] 26)) n (by omega)
      rw [World.size_alloc] at this
      exact World.ownsRow.alloc (this.base (by omega)) _
    · have := own_noneI ((w.alloc (.cells #[.slice A n c, .slice R m d] 26)).alloc (.cells (Array.replicate n (.bool false)) 4)) (w.heap.size + 2) (by simp)
      simpa using this
  obtain ⟨w0, hw0⟩ : ∃ w0, (w.alloc (.cells #[.slice A n c, .slice R m d] 26)).alloc (.cells (Array.replicate n (.bool false)) 4) = w0 := ⟨_, rfl⟩
  have hsz0 : w0.heap.size = w.heap.size + 2 := by rw [← hw0]; simp
  rw [hw0] at hmk st
  simp at hmk
  clear hw0
  go_enter Try.func56, Try.ntmps56
  go_wp2
  clear hmk
  go_loopw [6, 7] (fun lv i wr => ∃ (k : Nat) (outs : List Bool) (l : List Int), k ≤ q ∧ i = .int .i64 k ∧ RS w wr #[.slice A n c, .slice R m d] n lv h.cs rs outs l ∧ Hid (Hps.Marked outs (rs.take k))) (fun _ i _ => q - (intOf i).toNat)
  case atStart => exact ⟨0, _, _, Nat.zero_le _, rfl, st, Lib.hid (by rw [List.take_zero]; exact Hps.Marked.nil _)⟩
  case round =>
    clear st hsz0
    obtain ⟨k, outs, l, hk, rfl, S, HM⟩ := hrel
    have hlen : outs.length = n := S.wk.len.trans hlc
    by_cases hlt : k < q
    · obtain ⟨g, o, x, rfl, hg, hx, d0⟩ := hf.at_ hlt
      have d1 := (S.bel.cell (p := ⟨g, o + k, none⟩) hg).trans d0
      have hlt' : (k : Int) < q := by omega
      have HT := Lib.hid (take_snocI hx)
      have hok := Hps.okRefs_at HO.out hx
      by_cases hx0 : 0 ≤ x
      · obtain ⟨y, rfl, hy, _⟩ := Hps.okRef_nat hok hx0
        have HRC := Lib.hid (Hps.Rch.root (cs := h.cs) (List.mem_of_getElem? hx))
        rw [hlc] at hy
        obtain ⟨g', o', b, e1, _, hbk, c1⟩ := S.own.reads.at_ (k := y) hy
        injection e1 with e1
        injection e1 with e2 e3
        subst e2 e3
        rw [Nat.zero_add] at c1
        have hy' : (y : Int) < n := by omega
        clear hx hok
        cases b
        · have HBK := Lib.hid hbk
          have fz : wr.frozen? ⟨w.heap.size + 1, y, none⟩ = false := S.own.frozen hlen y
          have d2 := ((S.bel.setCell (p := ⟨w.heap.size + 1, y, none⟩) (by simp) (.bool true)).cell (p := ⟨g, o + k, none⟩) hg).trans d0
          have ow := S.pre y
          have rr : IS ((wr.setCell ⟨w.heap.size + 1, y, none⟩ (.bool true)).alloc (.cells #[.int .i64 y] 3)) ((wr.setCell ⟨w.heap.size + 1, y, none⟩ (.bool true)).alloc (.cells #[.int .i64 y] 3)).heap.size (some ⟨(wr.setCell ⟨w.heap.size + 1, y, none⟩ (.bool true)).heap.size, 0, none⟩) 1 [(y : Int)] := (own_oneI _ (y : Int) 0 (Nat.zero_le _)).reads
          have hyn : l.length + 1 ≤ 1099511627776 := by have := S.wk.le; omega
          have hsz := S.big
          simp only [World.size_setCell] at rr
          clear hbk
          go_wp2_with (at_builtin; refine wpList_appendI rfl (.tmp 43) (.tmp 48) rfl (w.heap.size + 2) _ l rfl ow (some ⟨wr.heap.size, 0, none⟩) 1 1 _ [(y : Int)] rfl rr hyn (by simp; omega) ?_; intro v5 w5 o5 g5 s5)
          go_roundw
          case rel => exact ⟨k + 1, _, _, by omega, by go_num, S.mark hlen HBK.out HRC.out o5 g5, Lib.hid (by rw [HT.out]; exact (HM.out.set y).snoc fun _ => by simp [hlen, hy])⟩
          case measure => simp [intOf]; omega
        · have HBK := Lib.hid hbk
          clear hbk
          go_wp2_with fail
          go_roundw
          case rel => exact ⟨k + 1, _, _, by omega, by go_num, S, Lib.hid (by rw [HT.out]; exact HM.out.snoc fun _ => by simpa using HBK.out)⟩
          case measure => simp [intOf]; omega
      · have hx0' : decide ((0 : Int) ≤ x) = false := decide_eq_false hx0
        clear hx hok
        go_wp2_with fail
        go_roundw
        case rel => exact ⟨k + 1, _, _, by omega, by go_num, S, Lib.hid (by rw [HT.out]; exact HM.out.snoc fun hh => absurd hh hx0)⟩
        case measure => simp [intOf]; omega
    · obtain rfl : k = q := by omega
      rw [List.take_of_length_le (by omega)] at HM
      go_wp2_with fail
      go_loopw [6, 8] (fun lv i wr => ∃ (k : Nat) (outs : List Bool) (l : List Int), k ≤ l.length ∧ i = .int .i64 k ∧ RS w wr #[.slice A n c, .slice R m d] n lv h.cs rs outs l ∧ Hid (Hps.Marked outs rs) ∧ Hid (Hps.Done h.cs outs l k)) (fun _ i _ => n - (intOf i).toNat)
      case atStart => exact ⟨0, _, _, Nat.zero_le _, rfl, S, HM, Lib.hid (Hps.Done.zero _ _ _)⟩
      case round =>
        clear S HM hlen hk hlt
        obtain ⟨k, outs, l, hk, rfl, S, HM, HD⟩ := hrel
        obtain ⟨A6, c6, e6, f6⟩ := S.lst.form
        subst e6
        have hle := S.wk.le
        by_cases hlt : k < l.length
        · have hlt' : (k : Int) < l.length := by omega
          obtain ⟨g6, o6, yi, e6, hg6, hy6, d6⟩ := S.lst.reads.at_ (k := k) hlt
          subst e6
          obtain ⟨y, rfl, hy⟩ := S.wk.nat yi (List.mem_of_getElem? hy6)
          rw [hlc] at hy
          obtain ⟨g, o, cl, A', m', cc, e1, hg, hcl, d1, d2, d3, hmc, hi⟩ := hs.cells.at_ (k := y) hy
          subst e1
          have z0 : wr.cell? ⟨w.heap.size, 0, none⟩ = some (.slice (some ⟨g, o, none⟩) n c) := S.box.cell 0
          have d3' := (S.bel.cell (p := ⟨g, o + y * 3 + 2, none⟩) hg).trans d3
          have hy' : (y : Int) < n := by omega
          have hm3 : m' ≤ 1000000 := by have := HB.out cl (List.mem_of_getElem? hcl); have := hi.1; omega
          have HOK := Lib.hid (HRF.out cl (List.mem_of_getElem? hcl))
          have HRY := Lib.hid (S.wk.rch y (List.mem_of_getElem? hy6))
          have HY6 := Lib.hid hy6
          have HCL := Lib.hid hcl
          clear hy6 hcl d1 d2 d3 f6
          go_wp2_with fail
          go_big_quiet (fail)
          go_wp2
          go_loopw [6, 10] (fun lv i wr => ∃ (j : Nat) (outs : List Bool) (l : List Int), j ≤ m' ∧ i = .int .i64 j ∧ RS w wr #[.slice (some ⟨g, o, none⟩) n c, .slice R m d] n lv h.cs rs outs l ∧ Hid (Hps.Marked outs rs) ∧ Hid (Hps.Done h.cs outs l k) ∧ Hid (l[k]? = some (y : Int)) ∧ Hid (Hps.Marked outs (cl.r.take j))) (fun _ i _ => m' - (intOf i).toNat)
          case atStart => exact ⟨0, _, _, Nat.zero_le _, rfl, S.draws _, HM, HD, HY6, Lib.hid (by rw [List.take_zero]; exact Hps.Marked.nil _)⟩
          case round =>
            clear S HM HD HY6 d6 z0 d3' hle hlt hlt' hk
            obtain ⟨j, outs, l, hj, rfl, S, HM, HD, HY6, HMJ⟩ := hrel
            have hlen : outs.length = n := S.wk.len.trans hlc
            have hkl : k < l.length := (List.getElem?_eq_some_iff.1 HY6.out).1
            by_cases hlt : j < m'
            · obtain ⟨gr, or, x, e2, hgr, hx, d0⟩ := hi.at_ hlt
              subst e2
              have d1 := (S.bel.cell (p := ⟨gr, or + j, none⟩) hgr).trans d0
              have hlt' : (j : Int) < m' := by omega
              have HT := Lib.hid (take_snocI hx)
              have hok := Hps.okRefs_at HOK.out hx
              by_cases hx0 : 0 ≤ x
              · obtain ⟨z, rfl, hz, _⟩ := Hps.okRef_nat hok hx0
                have HRC := Lib.hid (Hps.Rch.step HRY.out HCL.out (List.mem_of_getElem? hx))
                rw [hlc] at hz
                obtain ⟨g', o', b, e1, _, hbk, c1⟩ := S.own.reads.at_ (k := z) hz
                injection e1 with e1
                injection e1 with e2 e3
                subst e2 e3
                rw [Nat.zero_add] at c1
                have hz' : (z : Int) < n := by omega
                clear hx hok
                cases b
                · have HBK := Lib.hid hbk
                  have fz : wr.frozen? ⟨w.heap.size + 1, z, none⟩ = false := S.own.frozen hlen z
                  have d2 := ((S.bel.setCell (p := ⟨w.heap.size + 1, z, none⟩) (by simp) (.bool true)).cell (p := ⟨gr, or + j, none⟩) hgr).trans d0
                  have ow := S.pre z
                  have rr : IS ((wr.setCell ⟨w.heap.size + 1, z, none⟩ (.bool true)).alloc (.cells #[.int .i64 z] 3)) ((wr.setCell ⟨w.heap.size + 1, z, none⟩ (.bool true)).alloc (.cells #[.int .i64 z] 3)).heap.size (some ⟨(wr.setCell ⟨w.heap.size + 1, z, none⟩ (.bool true)).heap.size, 0, none⟩) 1 [(z : Int)] := (own_oneI _ (z : Int) 0 (Nat.zero_le _)).reads
                  have hyn : l.length + 1 ≤ 1099511627776 := by have := S.wk.le; omega
                  have hsz := S.big
                  simp only [World.size_setCell] at rr
                  clear hbk
                  go_wp2_with (at_builtin; refine wpList_appendI rfl (.tmp 92) (.tmp 97) rfl (w.heap.size + 2) _ l rfl ow (some ⟨wr.heap.size, 0, none⟩) 1 1 _ [(z : Int)] rfl rr hyn (by simp; omega) ?_; intro v5 w5 o5 g5 s5)
                  go_roundw
                  case rel => exact ⟨j + 1, _, _, by omega, by go_num, S.mark hlen HBK.out HRC.out o5 g5, Lib.hid (HM.out.set z), Lib.hid (HD.out.more (by omega)), Lib.hid (by rw [List.getElem?_append_left hkl]; exact HY6.out), Lib.hid (by rw [HT.out]; exact (HMJ.out.set z).snoc fun _ => by simp [hlen, hz])⟩
                  case measure => simp [intOf]; omega
                · have HBK := Lib.hid hbk
                  clear hbk
                  go_wp2_with fail
                  go_roundw
                  case rel => exact ⟨j + 1, _, _, by omega, by go_num, S, HM, HD, HY6, Lib.hid (by rw [HT.out]; exact HMJ.out.snoc fun _ => by simpa using HBK.out)⟩
                  case measure => simp [intOf]; omega
              · have hx0' : decide ((0 : Int) ≤ x) = false := decide_eq_false hx0
                clear hx hok
                go_wp2_with fail
                go_roundw
                case rel => exact ⟨j + 1, _, _, by omega, by go_num, S, HM, HD, HY6, Lib.hid (by rw [HT.out]; exact HMJ.out.snoc fun hh => absurd hh hx0)⟩
                case measure => simp [intOf]; omega
            · obtain rfl : j = m' := by omega
              have HMJ2 := Lib.hid (show Hps.Marked outs cl.r by
                have := HMJ.out
                rwa [List.take_of_length_le (by have := hi.1; omega)] at this)
              have hle := S.wk.le
              go_wp2_with fail
              go_roundw
              case rel => exact ⟨k + 1, _, _, by omega, by go_num, S, HM, Lib.hid (HD.out.succ HY6.out HCL.out HMJ2.out)⟩
              case measure => simp [intOf]; omega
        · obtain rfl : k = l.length := by omega
          have HF := Lib.hid (S.wk.fin HM.out HD.out)
          go_wp2_with fail
          go_ret
          exact ⟨_, rfl, by rw [← HF.out]; exact S.own, S.bel⟩
end Go.Proofs.Ytakdjiojahlnmaa
