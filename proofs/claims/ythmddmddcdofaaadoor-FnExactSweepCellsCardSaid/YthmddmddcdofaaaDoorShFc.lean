/- What the claim DESweepCells stands on, part 3 of 3: texts of one seat put together, with what the claim needs of them. No conditions. -/
import Derived.Test.YthmddmddcdofaaaDoorShFb
namespace Go.Proofs.YthmddmddcdofaaaDoor
open Go.RowKit
set_option maxRecDepth 100000
theorem take_snocZ {xs : List Int} {j : Nat} {y : Int} (h : xs[j]? = some y) : xs.take (j + 1) = xs.take j ++ [y] := by
  rw [List.take_add_one, h]
  rfl
set_option maxHeartbeats 2000000 in
theorem freeCells_any (T : TypeId) (K : Beside) (w0 w : World) (b : Nat) (vc vr : Value) (rvs : List Value) (h : Hp) (V : Nat) (hT : TzT w) (S0 : BoxX T K w0 w b vc vr rvs h) (hV : V < 18446744073709551616) (hB : ∀ i, V.testBit i = true → i < h.cs.length) :
    Calls Tryd.prog 96 #[.pointer (some ⟨b, 0, none⟩), .int .u64 V] w fun e w' => (∃ v, e = .returned v) ∧ ∃ rvs', BoxX T K w0 w' b vc vr rvs' ⟨Hps.zapL h.cs (Hps.numsB V), h.rt⟩ := by
  obtain ⟨n, hn⟩ : ∃ n, h.cs.length = n := ⟨_, rfl⟩
  rw [hn] at hB
  have HB := Lib.hid hB
  have HNB := Lib.hid (fun (y : Int) (hy : y ∈ Hps.numsB V) => Hps.mem_nums.1 hy)
  have HM := Lib.hid (numbers_any V w hT hV)
  have hnl := Hps.nums_len V
  obtain ⟨A, c, R, d, rfl, rfl, -, -, fA, -⟩ := S0.own.form
  rw [hn] at S0 fA ⊢
  obtain ⟨m, hm⟩ : ∃ m, h.rt.length = m := ⟨_, rfl⟩
  rw [hm] at S0 ⊢
  have FA := Lib.hid fA
  have HN := Lib.hid hn
  obtain ⟨N, hNe⟩ : ∃ N, Hps.numsB V = N := ⟨_, rfl⟩
  rw [hNe] at HM HNB hnl ⊢
  clear hNe hT hB hn hm fA
  go_enter Tryd.func96, Tryd.ntmps96
  go_wp2_with fail
  refine HM.out.mono ?_
  rintro e w8 ⟨nv, rfl, on, b8⟩
  obtain ⟨A7, c7, e7, _⟩ := on.form
  subst e7
  obtain ⟨pp, hpp⟩ : ∃ pp, N.length = pp := ⟨_, rfl⟩
  have HP := Lib.hid hpp
  rw [hpp] at on hnl
  rw [hpp]
  have HLT := Lib.hid (fun v (hv : v ∈ (Value.slice A n c) :: (Value.slice R m d) :: rvs) k (hk : v.ownBlock = some k) => (S0.own.blocks hv hk).2)
  have S := S0.up b8
  have b8s := b8.size
  clear HM hpp b8 S0
  go_wp2_with fail
  go_loopw [9] (fun i wr => ∃ (j : Nat) (rvs : List Value), j ≤ pp ∧ i = .int .i64 j ∧ BoxX T K w0 wr b (.slice A n c) (.slice R m d) rvs ⟨Hps.zapL h.cs (N.take j), h.rt⟩ ∧ OwnI wr w.heap.size (.slice A7 pp c7) N) (fun i _ => pp - (intOf i).toNat)
  case atStart => exact ⟨0, rvs, Nat.zero_le _, rfl, S, on⟩
  case round =>
    clear S on
    obtain ⟨j, rv, hj, rfl, S, on⟩ := hrel
    have x0 : wr.cell? ⟨b, 0, none⟩ = some (.slice A n c) := S.c0
    by_cases hlj : j < pp
    · obtain ⟨g7, o7, y, rfl, hg7, hy, d7⟩ := on.reads.at_ hlj
      obtain ⟨z, rfl, _, hzb⟩ := HNB.out y (List.mem_of_getElem? hy)
      have hzn := HB.out z hzb
      obtain ⟨gc, hgce, hgc⟩ : ∃ gc, A = some ⟨gc, 0, none⟩ ∧ gc < w.heap.size := by
        obtain ⟨gc, e, _⟩ := FA.out (by omega)
        subst e
        exact ⟨gc, rfl, HLT.out (.slice (some ⟨gc, 0, none⟩) n c) (by simp) gc rfl⟩
      subst hgce
      have hne : (Value.slice (some ⟨g7, o7, none⟩) pp c7).ownBlock = none ∨ (Value.slice (some ⟨g7, o7, none⟩) pp c7).ownBlock ≠ some gc := .inr fun e => by have := (World.ownsRow.lt on gc e).1; omega
      have HNE := Lib.hid hne
      have hzl : (Hps.zapL h.cs (N.take j)).length = n := by rw [Hps.zapL_len]; exact HN.out
      obtain ⟨old, hold⟩ : ∃ old, (Hps.zapL h.cs (N.take j))[z]? = some old := ⟨_, List.getElem?_eq_getElem (show z < _ by rw [hzl]; exact hzn)⟩
      obtain ⟨g9, v, e9, _, _, -, -, y0, y1, y2, fz⟩ := S.own.cell_at hold
      injection e9 with e9
      injection e9 with e9
      subst e9
      have f0 := fz (z * 3)
      have f1 := fz (z * 3 + 1)
      have f2 := fz (z * 3 + 2)
      have SN := S.cell (cl := Hps.zeroCl) (rv := .slice none 0 0) hzl hold (World.ownsRow_nil _ _ _ _) (fun _ _ => .inl rfl) (.inl rfl) (fun _ _ => by simp [Value.ownBlock])
      have HTS := Lib.hid (show Hps.zapL h.cs (N.take (j + 1)) = (Hps.zapL h.cs (N.take j)).set z Hps.zeroCl by rw [take_snocZ hy, Hps.zapL_snoc]; rfl)
      rw [← HTS.out] at SN
      have SH := Lib.hid SN
      have on2 := Lib.hid (((on.far (put_any wr gc (z * 3) (.bool false)) HNE.out).far (put_any _ gc (z * 3 + 1) (.int .i64 0)) HNE.out).far (put_any _ gc (z * 3 + 2) (.slice none 0 0)) HNE.out)
      have hlj' : (j : Int) < pp := by omega
      have hzn' : (z : Int) < n := by omega
      clear hy hzb hold hzl S SN fz on hne
      go_wp2_with fail
      go_roundw
      case rel => exact ⟨j + 1, _, by omega, by go_num, SH.out, on2.out⟩
      case measure => simp [intOf]; omega
    · obtain rfl : j = pp := by omega
      rw [List.take_of_length_le (by rw [HP.out]; omega)] at S
      have SH := Lib.hid S
      clear S
      go_wp2_with fail
      go_end0
      exact ⟨⟨_, rfl⟩, rv, SH.out⟩
set_option maxHeartbeats 1000000 in
theorem freeList_any (A : Option Addr) (n c : Nat) (cs : List Cl) (w : World) (h : CS w w.heap.size A n cs) (hn : n ≤ 64) :
    Calls Tryd.prog 125 #[.slice A n c] w (GaveI w (Hps.gapsL cs)) := by
  have hlc := h.1
  have HF := Lib.hid (show Hps.gapsL cs = Hps.gapsTo cs n by rw [Hps.gapsL, hlc])
  have o0 : OwnI w w.heap.size (.slice none 0 0) [] := World.ownsRow_nil _ _ _ _
  have HO0 := Lib.hid o0
  clear o0
  go_enter Tryd.func125, Tryd.ntmps125
  go_wp2_with fail
  go_loopw [3, 8] (fun v i wr => ∃ k : Nat, k ≤ n ∧ i = .int .i64 k ∧ OwnI wr w.heap.size v (Hps.gapsTo cs k) ∧ Below w.heap.size w wr) (fun _ i _ => n - (intOf i).toNat)
  case atStart => exact ⟨0, Nat.zero_le _, rfl, HO0.out, Below.refl _ _⟩
  case round =>
    obtain ⟨k, hk, rfl, ow, bb⟩ := hrel
    by_cases hlt : k < n
    · obtain ⟨g, o, cl, A', m', cc, rfl, hg, hcl, d1, d2, d3, hmc, hi⟩ := (h.below bb).at_ hlt
      have hlt' : (k : Int) < n := by omega
      have hU : Hps.usedAt cs k = cl.u := by rw [Hps.usedAt, hcl]
      have hyn : (Hps.gapsTo cs k).length + 1 ≤ 1099511627776 := by have := Hps.gapsTo_len cs k; omega
      clear hcl
      cases hu : cl.u
      · rw [hu] at d1 hU
        have HY := Lib.hid (show Hps.gapsTo cs (k + 1) = Hps.gapsTo cs k ++ [(k : Int)] by rw [Hps.gapsTo, hU, if_neg (by decide)])
        have bW := bb.alloc bb.size (.cells #[.bool false, .int .i64 cl.d, .slice A' m' cc] 40)
        have ow1 := World.ownsRow.alloc (World.ownsRow.alloc ow (.cells #[.bool false, .int .i64 cl.d, .slice A' m' cc] 40)) (.cells #[.int .i64 k] 3)
        have bW2 := bW.alloc bW.size (.cells #[.int .i64 k] 3)
        have r1 : IS ((wr.alloc (.cells #[.bool false, .int .i64 cl.d, .slice A' m' cc] 40)).alloc (.cells #[.int .i64 k] 3)) ((wr.alloc (.cells #[.bool false, .int .i64 cl.d, .slice A' m' cc] 40)).alloc (.cells #[.int .i64 k] 3)).heap.size (some ⟨(wr.alloc (.cells #[.bool false, .int .i64 cl.d, .slice A' m' cc] 40)).heap.size, 0, none⟩) 1 [(k : Int)] := (own_oneI _ _ 0 (Nat.zero_le _)).reads
        simp only [World.size_alloc] at r1
        have hba := bW2.size
        clear hu hU
        go_wp2_with (at_builtin; refine wpList_appendI rfl (.tmp 16) (.tmp 18) rfl w.heap.size _ (Hps.gapsTo cs k) rfl ow1 (some ⟨wr.heap.size + 1, 0, none⟩) 1 1 _ [(k : Int)] rfl r1 hyn hba ?_; intro v5 w5 o5 g5 s5)
        have b5 : Below w.heap.size w w5 := bW2.grown g5 bW2.size (fun kk hkk => (World.ownsRow.lt ow1 kk hkk).1)
        go_roundw
        case rel => exact ⟨k + 1, by omega, by go_num, by rw [HY.out]; exact o5, b5⟩
        case measure => simp [intOf]; omega
      · rw [hu] at d1 hU
        have HY := Lib.hid (show Hps.gapsTo cs (k + 1) = Hps.gapsTo cs k by rw [Hps.gapsTo, if_pos hU, List.append_nil])
        have bW := bb.alloc bb.size (.cells #[.bool true, .int .i64 cl.d, .slice A' m' cc] 40)
        have ow1 := World.ownsRow.alloc ow (.cells #[.bool true, .int .i64 cl.d, .slice A' m' cc] 40)
        clear hu hU
        go_wp2_with fail
        go_roundw
        case rel => exact ⟨k + 1, by omega, by go_num, by rw [HY.out]; exact ow1, bW⟩
        case measure => simp [intOf]; omega
    · obtain rfl : k = n := by omega
      go_wp2_with fail
      go_ret
      exact ⟨_, rfl, by rw [HF.out]; exact ow, bb⟩
end Go.Proofs.YthmddmddcdofaaaDoor

namespace Go.Proofs.YthmddmddcdofaaaDoor
open Go.RowKit
set_option maxRecDepth 100000
/-- blocks that stay -/
abbrev KeptL := List (Nat × TypeId × Array Value)
/-- a heap in a sweeper of the call's own, with a list of numbers, beside blocks that stay -/
def SwFs (E : KeptL) (w0 wr : World) (b : Nat) (vc vr : Value) (rvs : List Value) (h : Hp) (fs : List Int) : Prop := ∃ ve, BoxX 104 (some (ve, fs, E)) w0 wr b vc vr rvs h
section
variable {E : KeptL} {w0 wr w1 : World} {b : Nat} {vc vr : Value} {rvs : List Value} {h : Hp} {fs : List Int}
theorem SwFs.up (S : SwFs E w0 wr b vc vr rvs h fs) (hw : Below wr.heap.size wr w1) : SwFs E w0 w1 b vc vr rvs h fs := by
  obtain ⟨ve, B⟩ := S
  exact ⟨ve, B.up hw⟩
theorem SwFs.c0 (S : SwFs E w0 wr b vc vr rvs h fs) : wr.cell? ⟨b, 0, none⟩ = some vc := by
  obtain ⟨ve, B⟩ := S
  exact B.c0
theorem SwFs.c1 (S : SwFs E w0 wr b vc vr rvs h fs) : wr.cell? ⟨b, 1, none⟩ = some vr := by
  obtain ⟨ve, B⟩ := S
  exact B.c1
theorem SwFs.fz (S : SwFs E w0 wr b vc vr rvs h fs) (i : Nat) : wr.frozen? ⟨b, i, none⟩ = false := by
  obtain ⟨ve, B⟩ := S
  exact B.box.frozen i
theorem SwFs.own (S : SwFs E w0 wr b vc vr rvs h fs) : OwnHx wr w0.heap.size vc vr rvs h := by
  obtain ⟨ve, B⟩ := S
  exact B.own
theorem SwFs.low (S : SwFs E w0 wr b vc vr rvs h fs) : Below w0.heap.size w0 wr := by
  obtain ⟨ve, B⟩ := S
  exact B.low
theorem SwFs.lo (S : SwFs E w0 wr b vc vr rvs h fs) : w0.heap.size ≤ b := by
  obtain ⟨ve, B⟩ := S
  exact B.lo
theorem SwFs.lt (S : SwFs E w0 wr b vc vr rvs h fs) : b < wr.heap.size := by
  obtain ⟨ve, B⟩ := S
  exact B.box.lt
/-- what lies in the list -/
theorem SwFs.none_ (S : SwFs E w0 wr b vc vr rvs h []) : ∃ A c, wr.cell? ⟨b, 2, none⟩ = some (.slice A 0 c) := by
  obtain ⟨ve, B⟩ := S
  have c2 : wr.cell? ⟨b, 2, none⟩ = some ve := B.box.cell 2
  obtain ⟨A, c, e⟩ := (B.side.row _ rfl).form
  exact ⟨A, c, c2.trans (congrArg some e)⟩
/-- another row beside the heap -/
theorem SwFs.free {v : Value} {xs : List Int} (S : SwFs E w0 wr b vc vr rvs h fs) (hq : OwnI wr w0.heap.size v xs) (ha : ∀ u ∈ vc :: vr :: rvs, u.ownBlock = none ∨ u.ownBlock ≠ v.ownBlock) (hb : v.ownBlock ≠ some b) (hE : ∀ e ∈ E, v.ownBlock ≠ some e.1) : SwFs E w0 (wr.setCell ⟨b, 2, none⟩ v) b vc vr rvs h xs := by
  obtain ⟨ve, B⟩ := S
  exact ⟨v, B.beside3 hq.queue ha hb hE⟩
theorem SwFs.keptLt (S : SwFs E w0 wr b vc vr rvs h fs) : ∀ e ∈ E, e.1 < wr.heap.size := fun e he => by
  obtain ⟨ve, B⟩ := S
  exact (B.side.kept _ rfl e he).1.lt
/-- a block that has just been made stays -/
theorem SwFs.more {t : TypeId} {cs : Array Value} (S : SwFs E w0 wr b vc vr rvs h fs) : SwFs ((wr.heap.size, t, cs) :: E) w0 (wr.alloc (.cells cs t)) b vc vr rvs h fs := by
  obtain ⟨ve, B⟩ := S
  have hb := B.box.lt
  refine ⟨ve, (B.up ((Below.refl _ _).alloc (Nat.le_refl _) _)).more (Rw.new wr t cs) (by omega) (fun u hu e => ?_) fun e => ?_⟩
  · have := (B.own.blocks hu e).2
    omega
  · have := ((B.side.row _ rfl).lt _ e).2
    omega
end
/-- the list is that of the cells that are not used -/
abbrev SwSt (E : KeptL) (w0 wr : World) (b : Nat) (vc vr : Value) (rvs : List Value) (h : Hp) : Prop := SwFs E w0 wr b vc vr rvs h (Hps.gapsL h.cs)
end Go.Proofs.YthmddmddcdofaaaDoor

namespace Go.Proofs.YthmddmddcdofaaaDoor
open Go.RowKit
set_option maxRecDepth 100000
set_option maxHeartbeats 4000000 in
theorem sweeperOf_any (A R : Option Addr) (n c m d : Nat) (h : Hp) (w : World) (hs : HS w w.heap.size A n R m h) (hn : n ≤ 64) (hm : m ≤ 1000000) (h3 : ∀ cl ∈ h.cs, cl.r.length ≤ 1000000) :
    Calls Tryd.prog 75 #[heapV A n c R m d] w (GaveCt w h (Hps.gapsL h.cs)) := by
  have B2 : Below w.heap.size w ((w.alloc (.cells #[.slice A n c, .slice R m d] 26)).alloc (.cells #[.slice none 0 0, .slice none 0 0, .slice none 0 0] 104)) := ((Below.refl _ _).alloc (Nat.le_refl _) _).alloc (by simp) _
  have q1 := (Rw.new w 26 #[.slice A n c, .slice R m d]).alloc (.cells #[.slice none 0 0, .slice none 0 0, .slice none 0 0] 104)
  have q2 := Rw.new (w.alloc (.cells #[.slice A n c, .slice R m d] 26)) 104 #[.slice none 0 0, .slice none 0 0, .slice none 0 0]
  simp only [World.size_alloc] at q2
  have s2 := hs.up B2
  have H3 := Lib.hid h3
  clear h3 hs
  go_enter Tryd.func75, Tryd.ntmps75
  go_upto_region 1 with fail
  generalize (w.alloc (.cells #[.slice A n c, .slice R m d] 26)).alloc (.cells #[.slice none 0 0, .slice none 0 0, .slice none 0 0] 104) = w2 at B2 q1 q2 s2 ⊢
  obtain ⟨q, hq⟩ : ∃ q, w.heap.size = q := ⟨_, rfl⟩
  rw [hq] at B2 q1 q2 ⊢
  have HQ := Lib.hid hq
  clear hq
  have hql := q1.lt
  have hrl := q2.lt
  have x0 : w2.cell? ⟨q, 0, none⟩ = some (.slice A n c) := q1.cell 0
  have x1 : w2.cell? ⟨q, 1, none⟩ = some (.slice R m d) := q1.cell 1
  have SS := Lib.hid s2
  clear s2 q1
  refine wp_region_inv (by kernel_rfl) (by kernel_rfl) (fun L ac ww => ∃ t3 t4 t5 t6 t7 t8 : Value, ac = { tmps := #[heapV A n c R m d, Value.pointer (some { block := q, off := 0 }), Value.pointer (some { block := q + 1, off := 0 }), t3, t4, t5, t6, t7, t8], defers := [] } ∧ (L 6 = false → Below w2.heap.size w2 ww) ∧ (L 0 = true → t3 = .agg #[.slice A n c, .slice R m d]) ∧ (L 1 = true → ∃ (A5 : Option Addr) (n5 c5 : Nat) (R5 : Option Addr) (m5 d5 : Nat), t4 = .agg #[.slice A5 n5 c5, .slice R5 m5 d5] ∧ (L 4 = false → OwnH ww w2.heap.size (.slice A5 n5 c5) (.slice R5 m5 d5) h)) ∧ (L 2 = true → t5 = .pointer (some ⟨q, 0, none⟩)) ∧ (L 3 = true → t6 = .slice A n c) ∧ (L 4 = true → ∃ (A5 : Option Addr) (n5 c5 : Nat) (R5 : Option Addr) (m5 d5 : Nat) (K5 : Option Addr) (p5 q5 : Nat), t4 = .agg #[.slice A5 n5 c5, .slice R5 m5 d5] ∧ t7 = .slice K5 p5 q5 ∧ L 1 = true ∧ (L 6 = false → OwnC ww w2.heap.size (.slice A5 n5 c5) (.slice R5 m5 d5) (.slice K5 p5 q5) h (Hps.gapsL h.cs))) ∧ (L 5 = true → L 1 = true ∧ L 4 = true ∧ ∃ (A5 : Option Addr) (n5 c5 : Nat) (R5 : Option Addr) (m5 d5 : Nat) (K5 : Option Addr) (p5 q5 : Nat), t4 = .agg #[.slice A5 n5 c5, .slice R5 m5 d5] ∧ t7 = .slice K5 p5 q5 ∧ t8 = .agg #[.slice A5 n5 c5, .slice R5 m5 d5, .slice K5 p5 q5]) ∧ (L 6 = true → (∀ q, q < 6 → L q = true) ∧ ∃ (A5 : Option Addr) (n5 c5 : Nat) (R5 : Option Addr) (m5 d5 : Nat) (K5 : Option Addr) (p5 q5 : Nat) (wp : World), ww = (((wp).setCell ⟨q + 1, 0, none⟩ (.slice A5 n5 c5)).setCell ⟨q + 1, 1, none⟩ (.slice R5 m5 d5)).setCell ⟨q + 1, 2, none⟩ (.slice K5 p5 q5) ∧ Below w2.heap.size w2 wp ∧ OwnC wp w2.heap.size (.slice A5 n5 c5) (.slice R5 m5 d5) (.slice K5 p5 q5) h (Hps.gapsL h.cs))) ?h0 ?hstep ?hdone
  case h0 => exact ⟨_, _, _, _, _, _, rfl, fun _ => (Below.refl _ _).drew, (fun h => absurd h Bool.false_ne_true), (fun h => absurd h Bool.false_ne_true), (fun h => absurd h Bool.false_ne_true), (fun h => absurd h Bool.false_ne_true), (fun h => absurd h Bool.false_ne_true), (fun h => absurd h Bool.false_ne_true), (fun h => absurd h Bool.false_ne_true)⟩
  case hstep =>
    rintro L ac ww i o ho hL hd ⟨t3, t4, t5, t6, t7, t8, rfl, I0, f0, f1, f2, f3, f4, f5, f6⟩
    have hi : i < 7 := (Array.getElem?_eq_some_iff.1 ho).1
    obtain rfl | rfl | rfl | rfl | rfl | rfl | rfl : i = 0 ∨ i = 1 ∨ i = 2 ∨ i = 3 ∨ i = 4 ∨ i = 5 ∨ i = 6 := by omega
    · obtain rfl := Option.some.inj ho
      have hL6 : L 6 = false := by
        cases e : L 6
        · rfl
        · exact absurd ((f6 e).1 0 (by decide)) (by rw [hL]; decide)
      have J := I0 hL6
      have z0 : ww.cell? ⟨q, 0, none⟩ = some (.slice A n c) := (J.cell (p := ⟨q, 0, none⟩) hql).trans x0
      have z1 : ww.cell? ⟨q, 1, none⟩ = some (.slice R m d) := (J.cell (p := ⟨q, 1, none⟩) hql).trans x1
      refine wpOp_step rfl (fun K' hK => ?_)
      go_simp
      refine hK _ _ ?_
      exact ⟨_, _, _, _, _, _, rfl, (fun _ => J), (fun _ => rfl), (fun h => by
        obtain ⟨A5, n5, c5, R5, m5, d5, e, r⟩ := f1 (upd_ne h (by decide))
        exact ⟨A5, n5, c5, R5, m5, d5, e, fun h4 => r (by rw [upd_other (by decide)] at h4; exact h4)⟩), (kp f2), (kp f3), (fun h => by
        obtain ⟨A5, n5, c5, R5, m5, d5, K5, p5, q5, e, e7, l1, r⟩ := f4 (upd_ne h (by decide))
        exact ⟨A5, n5, c5, R5, m5, d5, K5, p5, q5, e, e7, upd_mono l1, fun h6 => r (by rw [upd_other (by decide)] at h6; exact h6)⟩), (fun h => by
        obtain ⟨l1, l4, r⟩ := f5 (upd_ne h (by decide))
        exact ⟨upd_mono l1, upd_mono l4, r⟩), (fun h => absurd hL6 (by rw [upd_ne h (by decide)]; decide))⟩
    · obtain rfl := Option.some.inj ho
      have g0 := f0 (hd ⟨0, .data⟩ (by simp) rfl)
      subst g0
      have hL6 : L 6 = false := by
        cases e : L 6
        · rfl
        · exact absurd ((f6 e).1 1 (by decide)) (by rw [hL]; decide)
      have J := I0 hL6
      refine wpOp_step rfl (fun K' hK => ?_)
      go_simp
      refine (cloneHeap_any A R n c m d h ww (SS.out.up J) (by omega) (by omega) H3.out).mono ?_
      rintro e w' ⟨vc, vr, rfl, ow, b5⟩
      obtain ⟨A5, n5, c5, R5, m5, d5, rfl, rfl⟩ := ow.slices
      refine hK _ _ ?_
      exact ⟨_, _, _, _, _, _, rfl, (fun _ => J.trans (b5.mono J.size)), (kp f0), (fun _ => ⟨A5, n5, c5, R5, m5, d5, rfl, fun _ => ow.base J.size⟩), (kp f2), (kp f3), (fun h => by
        obtain ⟨_, _, _, _, _, _, _, _, _, _, _, l1, _⟩ := f4 (upd_ne h (by decide))
        exact absurd l1 (by rw [hL]; decide)), (fun h => absurd (f5 (upd_ne h (by decide))).1 (by rw [hL]; decide)), (fun h => absurd hL6 (by rw [upd_ne h (by decide)]; decide))⟩
    · obtain rfl := Option.some.inj ho
      have hL6 : L 6 = false := by
        cases e : L 6
        · rfl
        · exact absurd ((f6 e).1 2 (by decide)) (by rw [hL]; decide)
      have J := I0 hL6
      refine wpOp_step rfl (fun K' hK => ?_)
      go_simp
      refine hK _ _ ?_
      exact ⟨_, _, _, _, _, _, rfl, (fun _ => J), (kp f0), (fun h => by
        obtain ⟨A5, n5, c5, R5, m5, d5, e, r⟩ := f1 (upd_ne h (by decide))
        exact ⟨A5, n5, c5, R5, m5, d5, e, fun h4 => r (by rw [upd_other (by decide)] at h4; exact h4)⟩), (fun _ => rfl), (kp f3), (fun h => by
        obtain ⟨A5, n5, c5, R5, m5, d5, K5, p5, q5, e, e7, l1, r⟩ := f4 (upd_ne h (by decide))
        exact ⟨A5, n5, c5, R5, m5, d5, K5, p5, q5, e, e7, upd_mono l1, fun h6 => r (by rw [upd_other (by decide)] at h6; exact h6)⟩), (fun h => by
        obtain ⟨l1, l4, r⟩ := f5 (upd_ne h (by decide))
        exact ⟨upd_mono l1, upd_mono l4, r⟩), (fun h => absurd hL6 (by rw [upd_ne h (by decide)]; decide))⟩
    · obtain rfl := Option.some.inj ho
      have g2 := f2 (hd ⟨2, .data⟩ (by simp) rfl)
      subst g2
      have hL6 : L 6 = false := by
        cases e : L 6
        · rfl
        · exact absurd ((f6 e).1 3 (by decide)) (by rw [hL]; decide)
      have J := I0 hL6
      have z0 : ww.cell? ⟨q, 0, none⟩ = some (.slice A n c) := (J.cell (p := ⟨q, 0, none⟩) hql).trans x0
      refine wpOp_step rfl (fun K' hK => ?_)
      go_simp
      refine hK _ _ ?_
      exact ⟨_, _, _, _, _, _, rfl, (fun _ => J), (kp f0), (fun h => by
        obtain ⟨A5, n5, c5, R5, m5, d5, e, r⟩ := f1 (upd_ne h (by decide))
        exact ⟨A5, n5, c5, R5, m5, d5, e, fun h4 => r (by rw [upd_other (by decide)] at h4; exact h4)⟩), (kp f2), (fun _ => rfl), (fun h => by
        obtain ⟨A5, n5, c5, R5, m5, d5, K5, p5, q5, e, e7, l1, r⟩ := f4 (upd_ne h (by decide))
        exact ⟨A5, n5, c5, R5, m5, d5, K5, p5, q5, e, e7, upd_mono l1, fun h6 => r (by rw [upd_other (by decide)] at h6; exact h6)⟩), (fun h => by
        obtain ⟨l1, l4, r⟩ := f5 (upd_ne h (by decide))
        exact ⟨upd_mono l1, upd_mono l4, r⟩), (fun h => absurd hL6 (by rw [upd_ne h (by decide)]; decide))⟩
    · obtain rfl := Option.some.inj ho
      have g3 := f3 (hd ⟨3, .data⟩ (by simp) rfl)
      subst g3
      have hL6 : L 6 = false := by
        cases e : L 6
        · rfl
        · exact absurd ((f6 e).1 4 (by decide)) (by rw [hL]; decide)
      have J := I0 hL6
      have l1 := Lib.hid (hd ⟨1, .chain⟩ (by simp) rfl)
      obtain ⟨A5, n5, c5, R5, m5, d5, e4, r4⟩ := f1 l1.out
      subst e4
      have oh := r4 hL
      refine wpOp_step rfl (fun K' hK => ?_)
      go_simp
      refine (freeList_any A n c h.cs ww (SS.out.up J).cells hn).mono ?_
      rintro e w' ⟨vk, rfl, ok, b5⟩
      obtain ⟨K5, q5, e8, -⟩ := ok.form
      refine hK _ _ ?_
      exact ⟨_, _, _, _, _, _, rfl, (fun _ => J.trans (b5.mono J.size)), (kp f0), (fun _ => ⟨A5, n5, c5, R5, m5, d5, rfl, fun h => absurd h (by rw [upd_self]; decide)⟩), (kp f2), (kp f3), (fun _ => ⟨A5, n5, c5, R5, m5, d5, K5, _, q5, rfl, e8, upd_mono l1.out, fun _ => by
        rw [← e8]
        exact OwnC.of oh b5 ok J.size⟩), (fun h => absurd (f5 (upd_ne h (by decide))).2.1 (by rw [hL]; decide)), (fun h => absurd hL6 (by rw [upd_ne h (by decide)]; decide))⟩
    · obtain rfl := Option.some.inj ho
      have g1 := f1 (hd ⟨1, .data⟩ (by simp) rfl)
      have g4 := f4 (hd ⟨4, .data⟩ (by simp) rfl)
      have hL6 : L 6 = false := by
        cases e : L 6
        · rfl
        · exact absurd ((f6 e).1 5 (by decide)) (by rw [hL]; decide)
      have J := I0 hL6
      have l4 := Lib.hid (hd ⟨4, .data⟩ (by simp) rfl)
      obtain ⟨A5, n5, c5, R5, m5, d5, K5, p5, q5, e4, e7, l1, r4⟩ := g4
      have L1 := Lib.hid l1
      clear l1
      subst e4
      subst e7
      clear g1
      refine wpOp_step rfl (fun K' hK => ?_)
      go_simp
      refine hK _ _ ?_
      exact ⟨_, _, _, _, _, _, rfl, (fun _ => J), (kp f0), (fun _ => ⟨A5, n5, c5, R5, m5, d5, rfl, fun h => absurd l4.out (by rw [upd_other (by decide)] at h; rw [h]; decide)⟩), (kp f2), (kp f3), (fun _ => ⟨A5, n5, c5, R5, m5, d5, K5, p5, q5, rfl, rfl, upd_mono L1.out, fun h => r4 (by rw [upd_other (by decide)] at h; exact h)⟩), (fun _ => ⟨upd_mono L1.out, upd_mono l4.out, A5, n5, c5, R5, m5, d5, K5, p5, q5, rfl, rfl, rfl⟩), (fun h => absurd hL6 (by rw [upd_ne h (by decide)]; decide))⟩
    · obtain rfl := Option.some.inj ho
      have g5 := f5 (hd ⟨5, .data⟩ (by simp) rfl)
      have lq : Hid (∀ q, q < 6 → L q = true) := Lib.hid (by
        intro q hq
        obtain rfl | rfl | rfl | rfl | rfl | rfl : q = 0 ∨ q = 1 ∨ q = 2 ∨ q = 3 ∨ q = 4 ∨ q = 5 := by omega
        · exact hd ⟨0, .phase⟩ (by simp) rfl
        · exact hd ⟨1, .phase⟩ (by simp) rfl
        · exact hd ⟨2, .phase⟩ (by simp) rfl
        · exact hd ⟨3, .phase⟩ (by simp) rfl
        · exact hd ⟨4, .phase⟩ (by simp) rfl
        · exact hd ⟨5, .phase⟩ (by simp) rfl)
      have J := I0 hL
      obtain ⟨-, -, A5, n5, c5, R5, m5, d5, K5, p5, q5, e4, e7, e8⟩ := g5
      subst e8
      obtain ⟨A6, n6, c6, R6, m6, d6, K6, p6, q6, e4b, e7b, -, r4⟩ := f4 (lq.out 4 (by decide))
      have oc := r4 hL
      rw [e4] at e4b
      rw [e7] at e7b
      injection e4b with e4b
      simp at e4b
      obtain ⟨⟨rfl, rfl, rfl⟩, rfl, rfl, rfl⟩ := e4b
      injection e7b with h1 h2 h3
      subst h1
      subst h2
      subst h3
      subst e4
      subst e7
      have P := q2.keep J hrl
      have zf0 : ww.frozen? ⟨q + 1, 0, none⟩ = false := P.frozen 0
      have zf1 : ww.frozen? ⟨q + 1, 1, none⟩ = false := P.frozen 1
      have zf2 : ww.frozen? ⟨q + 1, 2, none⟩ = false := P.frozen 2
      have zc0 : ww.cell? ⟨q + 1, 0, none⟩ = some (.slice none 0 0) := P.cell 0
      have zc1 : ww.cell? ⟨q + 1, 1, none⟩ = some (.slice none 0 0) := P.cell 1
      have zc2 : ww.cell? ⟨q + 1, 2, none⟩ = some (.slice none 0 0) := P.cell 2
      refine wpOp_step rfl (fun K' hK => ?_)
      go_simp
      refine hK _ _ ?_
      exact ⟨_, _, _, _, _, _, rfl, (fun h => absurd h (by rw [upd_self]; decide)), (kp f0), (fun _ => ⟨A5, n5, c5, R5, m5, d5, rfl, fun h => absurd (lq.out 4 (by decide)) (by rw [upd_other (by decide)] at h; rw [h]; decide)⟩), (kp f2), (kp f3), (fun _ => ⟨A5, n5, c5, R5, m5, d5, K5, p5, q5, rfl, rfl, upd_mono (lq.out 1 (by decide)), fun h => absurd h (by rw [upd_self]; decide)⟩), (fun _ => ⟨upd_mono (lq.out 1 (by decide)), upd_mono (lq.out 4 (by decide)), A5, n5, c5, R5, m5, d5, K5, p5, q5, rfl, rfl, rfl⟩), (fun _ => ⟨fun q hq => upd_mono (lq.out q hq), A5, n5, c5, R5, m5, d5, K5, p5, q5, ww, rfl, J, oc⟩)⟩
  case hdone =>
    rintro L ac ww hall ⟨t3, t4, t5, t6, t7, t8, rfl, I0, f0, f1, f2, f3, f4, f5, f6⟩
    have e0 := f0 (hall 0 (by decide))
    have e1 := f1 (hall 1 (by decide))
    have e2 := f2 (hall 2 (by decide))
    have e3 := f3 (hall 3 (by decide))
    have e4 := f4 (hall 4 (by decide))
    have e5 := f5 (hall 5 (by decide))
    have e6 := f6 (hall 6 (by decide))
    clear f0 f1 f2 f3 f4 f5 f6
    obtain ⟨-, A5, n5, c5, R5, m5, d5, K5, p5, q5, wp, rfl, r1, r9⟩ := e6
    have P := q2.keep r1 hrl
    have P4 := ((P.put 0 (.slice A5 n5 c5)).put 1 (.slice R5 m5 d5)).put 2 (.slice K5 p5 q5)
    have s8 : ((((wp).setCell ⟨q + 1, 0, none⟩ (.slice A5 n5 c5)).setCell ⟨q + 1, 1, none⟩ (.slice R5 m5 d5)).setCell ⟨q + 1, 2, none⟩ (.slice K5 p5 q5)).cell? ⟨q + 1, 0, none⟩ = some (.slice A5 n5 c5) := P4.cell 0
    have s9 : ((((wp).setCell ⟨q + 1, 0, none⟩ (.slice A5 n5 c5)).setCell ⟨q + 1, 1, none⟩ (.slice R5 m5 d5)).setCell ⟨q + 1, 2, none⟩ (.slice K5 p5 q5)).cell? ⟨q + 1, 1, none⟩ = some (.slice R5 m5 d5) := P4.cell 1
    have s10 : ((((wp).setCell ⟨q + 1, 0, none⟩ (.slice A5 n5 c5)).setCell ⟨q + 1, 1, none⟩ (.slice R5 m5 d5)).setCell ⟨q + 1, 2, none⟩ (.slice K5 p5 q5)).cell? ⟨q + 1, 2, none⟩ = some (.slice K5 p5 q5) := P4.cell 2
    have HW := HQ.out
    have D := Lib.hid (OwnC.out (w := w) (g := q + 1) r9 (by omega) (by rw [HW]; exact B2.trans (r1.mono (by have := B2.size; omega))) (by omega))
    clear I0 e0 e1 e2 e3 e4 e5 hall r1 r9 P P4
    go_wp2_with fail
    exact bodyPost_ret (v := .agg #[.slice A5 n5 c5, .slice R5 m5 d5, .slice K5 p5 q5]) (by simp [results, Tryd.results75, go_sem, *]) rfl ⟨_, _, _, rfl, D.out.1, D.out.2⟩
theorem SwSt.of {w w1 : World} {vc vr vk : Value} {h : Hp} (o : OwnC w1 w.heap.size vc vr vk h (Hps.gapsL h.cs)) (hb : Below w.heap.size w w1) : ∃ rvs, SwSt [] w (w1.alloc (.cells #[vc, vr, vk] 104)) w1.heap.size vc vr rvs h := by
  obtain ⟨rvs, o⟩ := o
  have bA : Below w1.heap.size w1 (w1.alloc (.cells #[vc, vr, vk] 104)) := (Below.refl _ _).alloc (Nat.le_refl _) _
  refine ⟨rvs, vk, o.heap.below bA (Nat.le_refl _), o.heap.apart_new (Nat.le_refl _), Rw.new _ _ _, hb.alloc hb.size _, hb.size, ⟨fun p e => ?_, fun p e x hx => ?_, fun g hg => ?_⟩⟩
  · cases e
    exact (o.cnts.below bA (Nat.le_refl _)).queue
  · cases e
    cases hx
  · obtain ⟨p, e, h1 | ⟨x, hx, _⟩⟩ := hg
    · cases e
      have h2 := (World.ownsRow.lt o.cnts g h1).2
      refine ⟨by omega, fun v hv e => ?_⟩
      rcases o.sep v hv with h3 | h3
      · rw [e] at h3; cases h3
      · exact h3 (by rw [e]; exact h1.symm)
    · cases e
      cases hx
/-- the heap in a sweeper, as a heap of the call's own -/
theorem SwFs.ownH {w0 wr : World} {b : Nat} {vc vr : Value} {rvs : List Value} {h : Hp} {fs : List Int} {E : KeptL} (S : SwFs E w0 wr b vc vr rvs h fs) : OwnH wr w0.heap.size vc vr h := ⟨rvs, S.own⟩
set_option maxHeartbeats 2000000 in
theorem sweep_any (E : KeptL) (w0 w : World) (b : Nat) (vc vr : Value) (rvs : List Value) (h : Hp) (fs : List Int) (marks : List Bool) (hT : TzT w0) (S : SwFs E w0 w b vc vr rvs h fs) (hl : marks.length = h.cs.length) (h40 : h.cs.length ≤ 40) (hz : ∀ c ∈ h.cs, c.u = false → c = Hps.zeroCl) :
    Calls Tryd.prog 76 #[.pointer (some ⟨b, 0, none⟩), .int .u64 (Bm.wordN marks true : Nat)] w fun e w' => e = .returned (.int .i64 (Hps.freedTo h.cs marks marks.length : Nat)) ∧ ∃ rvs', SwSt E w0 w' b vc vr rvs' (Hps.dropH h (marks.map (!·))) := by
  have hU := Hps.usedW_lt (cs := h.cs) (by omega)
  have hM := Bm.wordN_lt marks true (by omega)
  have HAN := Lib.hid (u64_andNot_nat (Hps.usedW h.cs) (Bm.wordN marks true) hU hM)
  have hVl := Hps.lostW_lt marks (cs := h.cs) (by omega)
  have HPC := Lib.hid (Hps.pc_lost hl (by omega))
  have HZ := Lib.hid (Hps.zap_lost hl (by omega) hz)
  have HBT := Lib.hid (fun i (hi : (Hps.lostW h.cs marks).testBit i = true) => show i < h.cs.length by
    rw [Hps.lostW_bit hl (by omega), Bool.and_eq_true] at hi
    exact Hps.usedAt_lt hi.1)
  rw [← Hps.lostW] at HAN
  obtain ⟨V, hV⟩ : ∃ V, Hps.lostW h.cs marks = V := ⟨_, rfl⟩
  rw [hV] at HAN hVl HPC HZ HBT
  have HDL := Lib.hid (Hps.drop_len h (marks.map (!·)))
  obtain ⟨X, hX⟩ : ∃ X, Hps.dropH h (marks.map (!·)) = X := ⟨_, rfl⟩
  rw [hX] at HDL ⊢
  have HXE := Lib.hid (show (⟨Hps.dropL h.cs (marks.map (!·)), h.rt⟩ : Hp) = X from hX)
  obtain ⟨M, hMe⟩ : ∃ M, Bm.wordN marks true = M := ⟨_, rfl⟩
  rw [hMe] at hM HAN ⊢
  obtain ⟨U, hUe⟩ : ∃ U, Hps.usedW h.cs = U := ⟨_, rfl⟩
  rw [hUe] at hU HAN
  have HUE := Lib.hid hUe
  obtain ⟨A, c, R, d, rfl, rfl, -⟩ := S.own.form
  obtain ⟨n, hn⟩ : ∃ n, h.cs.length = n := ⟨_, rfl⟩
  obtain ⟨m, hm⟩ : ∃ m, h.rt.length = m := ⟨_, rfl⟩
  rw [hn, hm] at S ⊢
  rw [hn] at h40 HDL
  have HT := Lib.hid (fun w1 (hb : Below w0.heap.size w0 w1) => hT.below hb)
  have HC := Lib.hid S.own.reads.cells
  have x0 : w.cell? ⟨b, 0, none⟩ = some (.slice A n c) := S.c0
  have HCNT := Lib.hid (fun ww => count_any V ww hVl)
  rw [HPC.out] at HCNT
  have HN := Lib.hid hn
  obtain ⟨fr, hfr⟩ : ∃ fr, Hps.freedTo h.cs marks marks.length = fr := ⟨_, rfl⟩
  rw [hfr] at HCNT ⊢
  clear hV hMe hUe hl hz hT hn hm hfr HPC hX
  go_enter Tryd.func76, Tryd.ntmps76
  go_wp2_with fail
  refine (usedSet_any A n c h.cs _ HC.out (by omega)).mono ?_
  rw [HUE.out]
  rintro e w1 ⟨rfl, b1⟩
  replace S := S.up b1
  have hand := HAN.out
  clear b1 x0 HC
  go_wp2_with fail
  obtain ⟨ve, B⟩ := S
  refine (freeCells_any _ _ w0 _ b _ _ rvs h V (HT.out _ B.low) B hVl HBT.out).mono ?_
  rintro e w2 ⟨⟨ev, rfl⟩, rv2, B2⟩
  rw [HZ.out, HXE.out] at B2
  have S2 : SwFs E w0 w2 b (.slice A n c) (.slice R m d) rv2 X fs := ⟨ve, B2⟩
  have x0 : w2.cell? ⟨b, 0, none⟩ = some (.slice A n c) := S2.c0
  have HC := Lib.hid (show CS w2 w2.heap.size A n X.cs from S2.own.reads.cells)
  clear B B2 hand
  go_wp2_with fail
  refine (freeList_any A n c X.cs _ HC.out (by omega)).mono ?_
  rintro e w3 ⟨vk, rfl, ok, b3⟩
  obtain ⟨Ak, ck, ek, -⟩ := ok.form
  obtain ⟨nk, hnk⟩ : ∃ nk, (Hps.gapsL X.cs).length = nk := ⟨_, rfl⟩
  rw [hnk] at ek
  subst ek
  clear hnk
  have hlo2 := S2.low.size
  have hlb := S2.lt
  have HAP := Lib.hid (fun v (hv : v ∈ (Value.slice A n c) :: (.slice R m d) :: rv2) => show v.ownBlock = none ∨ v.ownBlock ≠ (Value.slice Ak nk ck).ownBlock by
    cases e : v.ownBlock with
    | none => exact .inl rfl
    | some k =>
      right
      intro e'
      have a1 := (S2.own.blocks hv e).2
      have a2 := (World.ownsRow.lt ok k e'.symm).1
      omega)
  have HNB := Lib.hid (show (Value.slice Ak nk ck).ownBlock ≠ some b from fun e => by
    have := (World.ownsRow.lt ok b e).1
    omega)
  have HNE := Lib.hid (fun e (he : e ∈ E) => show (Value.slice Ak nk ck).ownBlock ≠ some e.1 from fun e2 => by
    have a1 := S2.keptLt e he
    have a2 := (World.ownsRow.lt ok _ e2).1
    omega)
  replace S2 := S2.up b3
  have fz := S2.fz 2
  obtain ⟨ve3, B3⟩ := S2
  have c2 : w3.cell? ⟨b, 2, none⟩ = some ve3 := B3.box.cell 2
  have S4 := Lib.hid (SwFs.free ⟨ve3, B3⟩ (ok.base hlo2) HAP.out HNB.out HNE.out)
  clear x0 HC HAP HNB HNE ok b3 B3
  go_wp2_with fail
  refine (HCNT.out _).mono ?_
  rintro e w5 ⟨rfl, rfl⟩
  go_wp2_with fail
  go_ret
  exact ⟨rfl, _, S4.out⟩
end Go.Proofs.YthmddmddcdofaaaDoor

namespace Go.Proofs.YthmddmddcdofaaaDoor
open Go.RowKit
set_option maxRecDepth 100000
namespace Hps
end Hps
end Go.Proofs.YthmddmddcdofaaaDoor

namespace Go.Proofs.YthmddmddcdofaaaDoor
open Go.RowKit
set_option maxRecDepth 100000
namespace Hps
end Hps
end Go.Proofs.YthmddmddcdofaaaDoor

namespace Go.Proofs.YthmddmddcdofaaaDoor
open Go.RowKit
set_option maxRecDepth 100000
namespace Hps
end Hps
set_option maxHeartbeats 1000000 in
theorem flaggedSet_any (A : Option Addr) (n c : Nat) (bs : List Bool) (w : World) (h : OS w w.heap.size A n bs) (hn : n ≤ 64) :
    Calls Tryd.prog 73 #[.slice A n c] w fun e w' => e = .returned (.int .u64 (Bm.wordN bs true : Nat)) ∧ w = w' := by
  have hlb := h.1
  have HW := Lib.hid (show Bm.wordN bs true = Bm.setN bs true n by rw [Bm.wordN, hlb])
  go_enter Tryd.func73, Tryd.ntmps73
  go_wp2_with fail
  go_loopw [3, 8] (fun v i wr => ∃ k : Nat, k ≤ n ∧ i = .int .i64 k ∧ v = .int .u64 (Bm.setN bs true k : Nat) ∧ wr = w) (fun _ i _ => n - (intOf i).toNat)
  case atStart => exact ⟨0, Nat.zero_le _, rfl, rfl, rfl⟩
  case round =>
    obtain ⟨k, hk, rfl, rfl, rfl⟩ := hrel
    by_cases hlt : k < n
    · obtain ⟨g, o, b, rfl, hg, hb, d1⟩ := h.at_ hlt
      have hlt' : (k : Int) < n := by omega
      have hV := Bm.setN_64 bs true (k := k) (by omega)
      obtain ⟨p1, p2, p3⟩ := Hps.pow_in (k := k) (by omega)
      have hor := Hps.or_in (V := Bm.setN bs true k) (k := k) hV (by omega)
      have hkneg : ¬ ((k : Int) < 0) := by omega
      cases b
      · have HN := Lib.hid (show Bm.setN bs true (k + 1) = Bm.setN bs true k by rw [Bm.setN, if_neg (by rw [hb]; decide)])
        clear hb
        go_wp2_with fail
        go_roundw
        case rel => exact ⟨k + 1, by omega, by go_num, by rw [HN.out], trivial⟩
        case measure => simp [intOf]; omega
      · have HN := Lib.hid (show Bm.setN bs true (k + 1) = Bm.setN bs true k ||| 2 ^ k by rw [Bm.setN, if_pos hb])
        clear hb
        go_wp2_with fail
        go_roundw
        case rel => exact ⟨k + 1, by omega, by go_num, by rw [HN.out], trivial⟩
        case measure => simp [intOf]; omega
    · obtain rfl : k = n := by omega
      go_wp2_with fail
      go_ret
      exact ⟨by rw [HW.out]; rfl, rfl⟩
end Go.Proofs.YthmddmddcdofaaaDoor

namespace Go.Proofs.YthmddmddcdofaaaDoor
open Go.RowKit
set_option maxRecDepth 100000
set_option maxHeartbeats 2000000 in
theorem keepsTargets_any (A R : Option Addr) (n c m d : Nat) (h : Hp) (marks : List Bool) (w : World) (hs : HS w w.heap.size A n R m h) (hv : Hps.validH h = true) (hl : marks.length = h.cs.length) :
    Calls Tryd.prog 74 #[.int .u64 (Bm.wordN marks true : Nat), heapV A n c R m d] w fun e w' => e = .returned (.bool (Hps.validH (Hps.dropH h (marks.map (!·))))) ∧ Below w.heap.size w w' := by
  have hlc := hs.cells.1
  obtain ⟨h40, hr4, h3⟩ := Hps.valid_small hv
  have hM := Bm.wordN_lt marks true (by omega)
  have HNR := Lib.hid (Hps.keep_no_root hv hl)
  have HNC := Lib.hid (fun k cl hc => Hps.keep_no_cell (k := k) (c := cl) hv hl hc)
  have HALL := Lib.hid (Hps.keep_all hv hl)
  obtain ⟨M, hMe⟩ : ∃ M, Bm.wordN marks true = M := ⟨_, rfl⟩
  rw [hMe] at hM HNR HNC HALL ⊢
  obtain ⟨r, hr⟩ : ∃ r, Hps.validH (Hps.dropH h (marks.map (!·))) = r := ⟨_, rfl⟩
  rw [hr] at HNR HNC HALL ⊢
  have hlr := hs.roots.1
  rw [hlc] at h40
  rw [hlr] at hr4
  have hm4 : m ≤ 4 := by omega
  clear hr4
  have b0 : Below w.heap.size w (w.alloc (.cells #[.slice A n c, .slice R m d] 26)) := (Below.refl _ _).alloc (Nat.le_refl _) _
  have q1 := Rw.new w 26 #[.slice A n c, .slice R m d]
  have s0 := hs.up b0
  have HS3 := Lib.hid h3
  clear hMe hr hs hv hl h3 hlc hlr
  go_enter Tryd.func74, Tryd.ntmps74
  go_upto_region 1 with fail
  generalize w.alloc (.cells #[.slice A n c, .slice R m d] 26) = w2 at b0 q1 s0 ⊢
  obtain ⟨q, hq⟩ : ∃ q, w.heap.size = q := ⟨_, rfl⟩
  rw [hq] at q1 ⊢
  have HQ := Lib.hid hq
  have hql := q1.lt
  have hqe := hq
  clear hq
  have x0 : w2.cell? ⟨q, 0, none⟩ = some (.slice A n c) := q1.cell 0
  have x1 : w2.cell? ⟨q, 1, none⟩ = some (.slice R m d) := q1.cell 1
  have HQE := Lib.hid hqe
  clear hqe
  go_wp2_with fail
  refine (hasTargets_any R m d M h.rt w2 s0.roots hM (by omega)).mono ?_
  obtain ⟨k0, hk0⟩ : ∃ k0, Hps.okVs M h.rt = k0 := ⟨_, rfl⟩
  rw [hk0] at HNR HALL ⊢
  clear hk0
  rintro e w3 ⟨rfl, rfl⟩
  cases k0
  · obtain rfl := HNR.out rfl
    clear x0 x1
    go_wp2_with fail
    go_ret
    exact ⟨rfl, b0⟩
  have HK := Lib.hid (show ∀ (k : Nat) (cl : Cl), k < 0 → h.cs[k]? = some cl → M.testBit k = true → Hps.okVs M cl.r = true from fun k cl hk => absurd hk (Nat.not_lt_zero k))
  go_wp2_with fail
  go_loopw [15] (fun i wr => ∃ k : Nat, k ≤ n ∧ i = .int .i64 k ∧ Below w2.heap.size w2 wr ∧ Hid (∀ (j : Nat) (cl : Cl), j < k → h.cs[j]? = some cl → M.testBit j = true → Hps.okVs M cl.r = true)) (fun i _ => n - (intOf i).toNat)
  case atStart => exact ⟨0, Nat.zero_le _, rfl, Below.refl _ _, HK⟩
  case round =>
    clear HK x0 x1
    obtain ⟨k, hk, rfl, bb, HK⟩ := hrel
    by_cases hlt : k < n
    · obtain ⟨g, o, cl, A', m', cc, rfl, hg, hcl, d1, d2, d3, hmc, hi⟩ := (s0.cells.below bb).at_ hlt
      have hlt' : (k : Int) < n := by omega
      have hB : Hps.hasB M (k : Int) = M.testBit k := by simp [Hps.hasB]
      have hm3 : m' ≤ 3 := by have := HS3.out cl (List.mem_of_getElem? hcl); have := hi.1; omega
      have HCL := Lib.hid hcl
      have bA := bb.alloc bb.size (.cells #[.bool cl.u, .int .i64 cl.d, .slice A' m' cc] 40)
      have QC := Rw.new wr 40 #[.bool cl.u, .int .i64 cl.d, .slice A' m' cc]
      have hi2 : IS (wr.alloc (.cells #[.bool cl.u, .int .i64 cl.d, .slice A' m' cc] 40)) (wr.alloc (.cells #[.bool cl.u, .int .i64 cl.d, .slice A' m' cc] 40)).heap.size A' m' cl.r := ((hi.more bb.size).below ((Below.refl _ _).alloc (Nat.le_refl _) _)).more (by simp)
      have HB := Lib.hid hB
      clear hcl hB
      go_upto_region 6 with fail
      generalize wr.alloc (.cells #[.bool cl.u, .int .i64 cl.d, .slice A' m' cc] 40) = w4 at bA QC hi2 ⊢
      generalize wr.heap.size = gq at QC ⊢
      have z2 : w4.cell? ⟨gq, 2, none⟩ = some (.slice A' m' cc) := QC.cell 2
      clear d1 d2 d3
      go_wp2_with fail
      refine (has_any M (k : Int) w4 hM).mono ?_
      rw [HB.out]
      cases hbit : M.testBit k
      · have HN := Lib.hid (show ∀ (j : Nat) (cl : Cl), j < k + 1 → h.cs[j]? = some cl → M.testBit j = true → Hps.okVs M cl.r = true from fun j cl hj hc hb => by
          by_cases e : j = k
          · subst e
            rw [hbit] at hb
            cases hb
          · exact HK.out j cl (by omega) hc hb)
        clear hbit
        rintro e w5 ⟨rfl, rfl⟩
        go_wp2_with fail
        go_roundw
        case rel => exact ⟨k + 1, by omega, by go_num, bA, HN⟩
        case measure => simp [intOf]; omega
      · have HBT := Lib.hid hbit
        clear hbit
        rintro e w5 ⟨rfl, rfl⟩
        go_wp2_with fail
        refine (hasTargets_any A' m' cc M cl.r w4 hi2 hM (by omega)).mono ?_
        obtain ⟨k1, hk1⟩ : ∃ k1, Hps.okVs M cl.r = k1 := ⟨_, rfl⟩
        rw [hk1]
        rintro e w6 ⟨rfl, rfl⟩
        cases k1
        · obtain rfl := HNC.out k cl HCL.out HBT.out hk1
          have bF := b0.trans (bA.mono b0.size)
          clear hk1
          go_wp2_with fail
          go_ret
          exact ⟨rfl, bF⟩
        · have HN := Lib.hid (show ∀ (j : Nat) (cl : Cl), j < k + 1 → h.cs[j]? = some cl → M.testBit j = true → Hps.okVs M cl.r = true from fun j cl2 hj hc hb => by
            by_cases e : j = k
            · subst e
              rw [HCL.out] at hc
              obtain rfl := Option.some.inj hc
              exact hk1
            · exact HK.out j cl2 (by omega) hc hb)
          clear hk1
          go_wp2_with fail
          go_roundw
          case rel => exact ⟨k + 1, by omega, by go_num, bA, HN⟩
          case measure => simp [intOf]; omega
    · obtain rfl : k = n := by omega
      have hlc := s0.cells.1
      obtain rfl := HALL.out (by simp) fun j cl hc hb => HK.out j cl (by have := (List.getElem?_eq_some_iff.1 hc).1; omega) hc hb
      have bF := b0.trans (bb.mono b0.size)
      clear hlc
      go_wp2_with fail
      go_ret
      exact ⟨rfl, bF⟩
set_option maxHeartbeats 4000000 in
theorem sweepCells_any (A R D : Option Addr) (n c m d q e : Nat) (h : Hp) (bs : List Bool) (w : World) (hT : TzT w) (hs : HS w w.heap.size A n R m h) (ho : OS w w.heap.size D q bs) (hn : n ≤ 1099511627776) (hm : m ≤ 1099511627776) (hq : q ≤ 1099511627776) (hnc : n ≤ c) (hmd : m ≤ d) :
    Calls Tryd.prog 26 #[heapV A n c R m d, .slice D q e] w (GaveHN w (Hps.sweepH h bs).1 (Hps.sweepH h bs).2) := by
  have hlc := hs.cells.1
  have hlr := hs.roots.1
  have hlb := ho.1
  have b2 : Below w.heap.size w ((w.alloc (.cells #[.slice A n c, .slice R m d] 26)).alloc (.cells #[.slice none 0 0, .slice none 0 0] 26)) := ((Below.refl _ _).alloc (Nat.le_refl _) _).alloc (by simp) _
  have q1 := (Rw.new w 26 #[.slice A n c, .slice R m d]).alloc (.cells #[.slice none 0 0, .slice none 0 0] 26)
  have q3 := Rw.new (w.alloc (.cells #[.slice A n c, .slice R m d] 26)) 26 #[.slice none 0 0, .slice none 0 0]
  simp only [World.size_alloc] at q3
  have s2 := hs.up b2
  have o2 := ho.up b2
  have hT2 := hT.below b2
  have HLC := Lib.hid hlc
  clear hs ho hT
  go_enter Tryd.func26, Tryd.ntmps26
  go_upto_region 1 with fail
  generalize (w.alloc (.cells #[.slice A n c, .slice R m d] 26)).alloc (.cells #[.slice none 0 0, .slice none 0 0] 26) = w2 at b2 q1 q3 s2 o2 hT2 ⊢
  have x0 : w2.cell? ⟨w.heap.size, 0, none⟩ = some (.slice A n c) := q1.cell 0
  have x1 : w2.cell? ⟨w.heap.size, 1, none⟩ = some (.slice R m d) := q1.cell 1
  go_wp2_with fail
  refine (heapValid_any _ _ _ _ _ _ h _ s2 hn hm hnc hmd).mono ?_
  obtain ⟨r, hv⟩ : ∃ r, Hps.validH h = r := ⟨_, rfl⟩
  rw [hv]
  rintro e w3 ⟨rfl, b1⟩
  replace q1 := q1.keep b1 q1.lt
  replace q3 := q3.keep b1 q3.lt
  replace s2 := s2.up b1
  replace o2 := o2.up b1
  replace hT2 := hT2.below b1
  replace b2 := b2.trans (b1.mono b2.size)
  clear b1 x0 x1
  cases r
  · have HF := Lib.hid (Hps.sweepH_no (h := h) (bs := bs) (.inl hv))
    have r2 : (w3).frozen? ⟨w.heap.size + 1, 0, none⟩ = false := q3.frozen 0
    have r3 : (w3).frozen? ⟨w.heap.size + 1, 1, none⟩ = false := q3.frozen 1
    have r4 : (w3).cell? ⟨w.heap.size + 1, 0, none⟩ = some (.slice none 0 0) := q3.cell 0
    have r5 : (w3).cell? ⟨w.heap.size + 1, 1, none⟩ = some (.slice none 0 0) := q3.cell 1
    have r6 : (((w3).setCell ⟨w.heap.size + 1, 0, none⟩ (.slice none 0 0)).setCell ⟨w.heap.size + 1, 1, none⟩ (.slice none 0 0)).cell? ⟨w.heap.size + 1, 0, none⟩ = some (.slice none 0 0) := ((q3.put 0 (.slice none 0 0)).put 1 (.slice none 0 0)).cell 0
    have r7 : (((w3).setCell ⟨w.heap.size + 1, 0, none⟩ (.slice none 0 0)).setCell ⟨w.heap.size + 1, 1, none⟩ (.slice none 0 0)).cell? ⟨w.heap.size + 1, 1, none⟩ = some (.slice none 0 0) := ((q3.put 0 (.slice none 0 0)).put 1 (.slice none 0 0)).cell 1
    have D := Lib.hid (OwnH.out (w := w) (g := w.heap.size + 1) (own_zeroH w3 w3.heap.size (Nat.le_refl _)) (by exact q3.lt) (b2) (by omega))
    clear q1 q3 s2 o2 hT2 b2 hv
    go_wp2_with fail
    exact bodyPost_ret (v := .tuple #[.agg #[.slice none 0 0, .slice none 0 0], .int .i64 (-1)]) (by simp [results, Tryd.results26, go_sem, *]) rfl ⟨_, _, by rw [HF.out], by rw [HF.out]; exact D.out.1, D.out.2⟩
  have x0 : w3.cell? ⟨w.heap.size, 0, none⟩ = some (.slice A n c) := q1.cell 0
  have x1 : w3.cell? ⟨w.heap.size, 1, none⟩ = some (.slice R m d) := q1.cell 1
  by_cases hqn : q = n
  case neg =>
    have HF := Lib.hid (Hps.sweepH_no (h := h) (bs := bs) (.inr (by omega)))
    have hne : ((q : Int) != (n : Int)) = true := by rw [bne_iff_ne]; omega
    have r2 : (w3).frozen? ⟨w.heap.size + 1, 0, none⟩ = false := q3.frozen 0
    have r3 : (w3).frozen? ⟨w.heap.size + 1, 1, none⟩ = false := q3.frozen 1
    have r4 : (w3).cell? ⟨w.heap.size + 1, 0, none⟩ = some (.slice none 0 0) := q3.cell 0
    have r5 : (w3).cell? ⟨w.heap.size + 1, 1, none⟩ = some (.slice none 0 0) := q3.cell 1
    have r6 : (((w3).setCell ⟨w.heap.size + 1, 0, none⟩ (.slice none 0 0)).setCell ⟨w.heap.size + 1, 1, none⟩ (.slice none 0 0)).cell? ⟨w.heap.size + 1, 0, none⟩ = some (.slice none 0 0) := ((q3.put 0 (.slice none 0 0)).put 1 (.slice none 0 0)).cell 0
    have r7 : (((w3).setCell ⟨w.heap.size + 1, 0, none⟩ (.slice none 0 0)).setCell ⟨w.heap.size + 1, 1, none⟩ (.slice none 0 0)).cell? ⟨w.heap.size + 1, 1, none⟩ = some (.slice none 0 0) := ((q3.put 0 (.slice none 0 0)).put 1 (.slice none 0 0)).cell 1
    have D := Lib.hid (OwnH.out (w := w) (g := w.heap.size + 1) (own_zeroH w3 w3.heap.size (Nat.le_refl _)) (by exact q3.lt) (b2) (by omega))
    clear q1 q3 s2 o2 hT2 b2 hv hqn
    go_wp2_with fail
    exact bodyPost_ret (v := .tuple #[.agg #[.slice none 0 0, .slice none 0 0], .int .i64 (-1)]) (by simp [results, Tryd.results26, go_sem, *]) rfl ⟨_, _, by rw [HF.out], by rw [HF.out]; exact D.out.1, D.out.2⟩
  have hbl : bs.length = h.cs.length := by omega
  have hne : ((q : Int) != (n : Int)) = false := by rw [bne_eq_false_iff_eq]; omega
  obtain ⟨h40, hr4, h3⟩ := Hps.valid_small hv
  have hKT := fun (w1 : World) (hs : HS w1 w1.heap.size A n R m h) => keepsTargets_any A R n c m d h bs w1 hs hv hbl
  have HFL := Lib.hid (flaggedSet_any D q e bs w3 o2 (by omega))
  obtain ⟨r, hr⟩ : ∃ r, Hps.validH (Hps.dropH h (bs.map (!·))) = r := ⟨_, rfl⟩
  rw [hr] at hKT
  have HKT := Lib.hid hKT
  obtain ⟨M, hM⟩ : ∃ M, Bm.wordN bs true = M := ⟨_, rfl⟩
  rw [hM] at HFL HKT
  have HM := Lib.hid hM
  have HV := Lib.hid hv
  have HR := Lib.hid hr
  have HBL := Lib.hid hbl
  have H3 := Lib.hid (fun cl (hcl : cl ∈ h.cs) => show cl.r.length ≤ 1000000 by have := h3 cl hcl; omega)
  rw [hlc] at h40
  rw [hlr] at hr4
  have hm4 : m ≤ 4 := by omega
  clear hr4
  clear hv hr hbl hM h3 hKT hqn
  go_wp2_with fail
  refine HFL.out.mono ?_
  rintro e w4 ⟨rfl, rfl⟩
  clear HFL
  go_wp2_with fail
  refine (HKT.out _ s2).mono ?_
  rintro e w4 ⟨rfl, b1⟩
  replace q1 := q1.keep b1 q1.lt
  replace q3 := q3.keep b1 q3.lt
  replace s2 := s2.up b1
  replace hT2 := hT2.below b1
  replace b2 := b2.trans (b1.mono b2.size)
  clear b1 x0 x1 HKT o2
  cases r
  · have HF := Lib.hid (Hps.sweepH_bad HV.out HBL.out HR.out)
    have r2 : (w4).frozen? ⟨w.heap.size + 1, 0, none⟩ = false := q3.frozen 0
    have r3 : (w4).frozen? ⟨w.heap.size + 1, 1, none⟩ = false := q3.frozen 1
    have r4 : (w4).cell? ⟨w.heap.size + 1, 0, none⟩ = some (.slice none 0 0) := q3.cell 0
    have r5 : (w4).cell? ⟨w.heap.size + 1, 1, none⟩ = some (.slice none 0 0) := q3.cell 1
    have r6 : (((w4).setCell ⟨w.heap.size + 1, 0, none⟩ (.slice none 0 0)).setCell ⟨w.heap.size + 1, 1, none⟩ (.slice none 0 0)).cell? ⟨w.heap.size + 1, 0, none⟩ = some (.slice none 0 0) := ((q3.put 0 (.slice none 0 0)).put 1 (.slice none 0 0)).cell 0
    have r7 : (((w4).setCell ⟨w.heap.size + 1, 0, none⟩ (.slice none 0 0)).setCell ⟨w.heap.size + 1, 1, none⟩ (.slice none 0 0)).cell? ⟨w.heap.size + 1, 1, none⟩ = some (.slice none 0 0) := ((q3.put 0 (.slice none 0 0)).put 1 (.slice none 0 0)).cell 1
    have D := Lib.hid (OwnH.out (w := w) (g := w.heap.size + 1) (own_zeroH w4 w4.heap.size (Nat.le_refl _)) (by exact q3.lt) (b2) (by omega))
    clear q1 q3 s2 hT2 b2
    go_wp2_with fail
    exact bodyPost_ret (v := .tuple #[.agg #[.slice none 0 0, .slice none 0 0], .int .i64 (-1)]) (by simp [results, Tryd.results26, go_sem, *]) rfl ⟨_, _, by rw [HF.out], by rw [HF.out]; exact D.out.1, D.out.2⟩
  have HF := Lib.hid (Hps.sweepH_ok HV.out HBL.out HR.out)
  have x0 : w4.cell? ⟨w.heap.size, 0, none⟩ = some (.slice A n c) := q1.cell 0
  have x1 : w4.cell? ⟨w.heap.size, 1, none⟩ = some (.slice R m d) := q1.cell 1
  have hrl := q3.lt
  go_wp2_with fail
  refine (sweeperOf_any A R n c m d h w4 s2 (by omega) (by omega) H3.out).mono ?_
  rintro e w5 ⟨vc, vr, vk, rfl, oc, b5⟩
  obtain ⟨rv, S⟩ := SwSt.of oc b5
  obtain ⟨A5, n5, c5, R5, m5, d5, K5, p5, q5, rfl, rfl, rfl⟩ := oc.slices
  have Q3 := Lib.hid q3
  have B2 := Lib.hid b2
  have HT := Lib.hid hT2
  clear oc b5 x0 x1 q1 q3 b2 s2 hT2
  go_upto_region 7 with fail
  generalize w5.alloc (.cells #[.slice A5 n5 c5, .slice R5 m5 d5, .slice K5 p5 q5] 104) = w6 at S ⊢
  generalize w5.heap.size = b at S ⊢
  have HSW := Lib.hid (sweep_any [] w4 w6 b _ _ rv h _ bs HT.out S HBL.out (by have := HLC.out; omega) (Hps.valid_zero HV.out))
  rw [HM.out, HBL.out] at HSW
  obtain ⟨fr, hfr⟩ : ∃ fr, Hps.freedTo h.cs bs h.cs.length = fr := ⟨_, rfl⟩
  rw [hfr] at HF HSW
  clear S hfr
  go_wp2_with fail
  refine HSW.out.mono ?_
  rintro e w7 ⟨rfl, rv2, S7⟩
  have z0 : w7.cell? ⟨b, 0, none⟩ = some (.slice A5 n5 c5) := S7.c0
  have z1 : w7.cell? ⟨b, 1, none⟩ = some (.slice R5 m5 d5) := S7.c1
  have q3 := Q3.out.keep S7.low hrl
  have b2 := B2.out.trans (S7.low.mono B2.out.size)
  have hw4 := B2.out.size
  have OH := S7.ownH
  clear S7 HSW
  have r2 : (w7).frozen? ⟨w.heap.size + 1, 0, none⟩ = false := q3.frozen 0
  have r3 : (w7).frozen? ⟨w.heap.size + 1, 1, none⟩ = false := q3.frozen 1
  have r4 : (w7).cell? ⟨w.heap.size + 1, 0, none⟩ = some (.slice none 0 0) := q3.cell 0
  have r5 : (w7).cell? ⟨w.heap.size + 1, 1, none⟩ = some (.slice none 0 0) := q3.cell 1
  have r6 : (((w7).setCell ⟨w.heap.size + 1, 0, none⟩ (.slice A5 n5 c5)).setCell ⟨w.heap.size + 1, 1, none⟩ (.slice R5 m5 d5)).cell? ⟨w.heap.size + 1, 0, none⟩ = some (.slice A5 n5 c5) := ((q3.put 0 (.slice A5 n5 c5)).put 1 (.slice R5 m5 d5)).cell 0
  have r7 : (((w7).setCell ⟨w.heap.size + 1, 0, none⟩ (.slice A5 n5 c5)).setCell ⟨w.heap.size + 1, 1, none⟩ (.slice R5 m5 d5)).cell? ⟨w.heap.size + 1, 1, none⟩ = some (.slice R5 m5 d5) := ((q3.put 0 (.slice A5 n5 c5)).put 1 (.slice R5 m5 d5)).cell 1
  have D := Lib.hid (OwnH.out (w := w) (g := w.heap.size + 1) (OH) (by omega) (b2) (by omega))
  clear q3 b2 OH
  go_wp2_with fail
  exact bodyPost_ret (v := .tuple #[.agg #[.slice A5 n5 c5, .slice R5 m5 d5], .int .i64 fr]) (by simp [results, Tryd.results26, go_sem, *]) rfl ⟨_, _, by rw [HF.out], by rw [HF.out]; exact D.out.1, D.out.2⟩
end Go.Proofs.YthmddmddcdofaaaDoor

namespace Go.Proofs.YthmddmddcdofaaaDoor
open Go.ChangeShapes Go.WideShapes Go.ChangeAt Go.RowKit Go.Deep
theorem set_takeO {xs : List Bool} {n k : Nat} {y : Bool} (hl : xs.length = n) (hk : k < n) (hy : xs[k]? = some y) : (xs.take k ++ List.replicate (n - k) false).set k y = xs.take (k + 1) ++ List.replicate (n - (k + 1)) false := by
  have h1 : (xs.take k).length = k := by rw [List.length_take]; omega
  rw [List.set_append_right _ _ (by omega), h1, Nat.sub_self, show n - k = (n - (k + 1)) + 1 by omega, List.replicate_succ, List.set_cons_zero, List.take_add_one, hy]
  simp
set_option maxHeartbeats 1000000 in
theorem toBoolS_any (A : Option Addr) (n c : Nat) (xs : List Bool) (w : World) (h : OS w w.heap.size A n xs) (hn : n ≤ 1099511627776) :
    Calls Tryd.prog 43 #[.slice A n c] w fun e w' => e = .returned (.slice (some ⟨w.heap.size, 0, none⟩) n n) ∧ OwnO w' w.heap.size (.slice (some ⟨w.heap.size, 0, none⟩) n n) xs ∧ Below w.heap.size w w' := by
  have hl := h.1
  have hmk := makeO w n hn
  have o2 := own_madeO w n hn
  have b2 : Below w.heap.size w (w.alloc (.cells (Array.replicate n (.bool false)) 4)) := (Below.refl _ _).alloc (Nat.le_refl _) _
  obtain ⟨w2, hw2⟩ : ∃ w2, w.alloc (.cells (Array.replicate n (.bool false)) 4) = w2 := ⟨_, rfl⟩
  rw [hw2] at hmk o2 b2
  have o2 : OwnO w2 w.heap.size (.slice (some ⟨w.heap.size, 0, none⟩) n n) (xs.take 0 ++ List.replicate (n - 0) false) := by simpa using o2
  clear hw2
  go_enter Tryd.func43, Tryd.ntmps43
  go_wp2
  clear hmk
  go_loopw [4] (fun i wr => ∃ k : Nat, k ≤ n ∧ i = .int .i64 k ∧ OwnO wr w.heap.size (.slice (some ⟨w.heap.size, 0, none⟩) n n) (xs.take k ++ List.replicate (n - k) false) ∧ Below w.heap.size w wr) (fun i _ => n - (intOf i).toNat)
  case atStart => exact ⟨0, Nat.zero_le _, rfl, o2, b2⟩
  case round =>
    clear o2 b2
    obtain ⟨k, hk, rfl, ho, hb⟩ := hrel
    have hlen : (xs.take k ++ List.replicate (n - k) false).length = n := by simp; omega
    by_cases hlt : k < n
    · obtain ⟨g', o', x, e', _, _, c1⟩ := ho.reads.at_ (k := k) (by omega)
      injection e' with e'
      injection e' with e1 e2
      subst e1 e2
      rw [Nat.zero_add] at c1
      obtain ⟨g, o, y, rfl, hg, hy, c2⟩ := (h.below hb).at_ hlt
      have fz : wr.frozen? ⟨w.heap.size, k, none⟩ = false := ho.frozen hlen k
      have t1 : (k : Int) < n := by omega
      have on := OwnO.cast (set_takeO hl hlt hy) (ho.put' (j := k) hlen y)
      have bn := hb.setCell (p := ⟨w.heap.size, k, none⟩) (Nat.le_refl _) (.bool y)
      clear ho hlen hy
      go_wp2_with fail
      go_roundw
      case rel => exact ⟨k + 1, by omega, by go_num, on, bn⟩
      case measure => simp [intOf]; omega
    · obtain rfl : k = n := by omega
      rw [List.take_of_length_le (by omega), Nat.sub_self] at ho
      have ho : OwnO wr w.heap.size (.slice (some ⟨w.heap.size, 0, none⟩) k k) xs := by simpa using ho
      clear hlen
      go_wp2_with fail
      go_ret
      exact ⟨rfl, ho, hb⟩
theorem eqBoolS_any (A B : Option Addr) (n m c d : Nat) (xs ys : List Bool) (w : World) (h : OS w w.heap.size A n xs) (h' : OS w w.heap.size B m ys) (hn : n ≤ 1099511627776) (hm : m ≤ 1099511627776) :
    Calls Tryd.prog 45 #[.slice A n c, .slice B m d] w fun e w' => e = .returned (.bool (decide (xs = ys))) ∧ Below w.heap.size w w' := by
  have HL := Lib.hid h.1
  have HL' := Lib.hid h'.1
  by_cases hnm : n = m
  · subst hnm
    go_enter Tryd.func45, Tryd.ntmps45
    go_wp2
    go_loopw [5] (fun i wr => ∃ (k : Nat), k ≤ n ∧ i = .int .i64 k ∧ Hid (xs.take k = ys.take k) ∧ Below w.heap.size w wr) (fun i _ => n - (intOf i).toNat)
    case atStart => exact ⟨0, Nat.zero_le _, rfl, by simp [Hid], Below.refl _ _⟩
    case round =>
      obtain ⟨k, hk, rfl, hpre, hb⟩ := hrel
      by_cases hlt : k < n
      · obtain ⟨g, o, x, rfl, hg, hx, c1⟩ := (h.below hb).at_ hlt
        obtain ⟨g', o', y, rfl, hg', hx', c1'⟩ := (h'.below hb).at_ hlt
        have HX := Lib.hid hx
        have HX' := Lib.hid hx'
        have hlt' : (k : Int) < n := by omega
        clear hx hx'
        by_cases hxy : x = y
        · subst hxy
          go_wp2_with fail
          go_quiet (fail)
          go_wp2
          go_roundw
          case rel => exact ⟨k + 1, by omega, by go_num, Lib.hid (take_eq_succO hpre.out HX.out HX'.out), below_drewN hb _⟩
          case measure => simp [intOf]; omega
        · have hne : (x == y) = false := by rw [beq_eq_false_iff_ne]; exact hxy
          have hne2 : (x != y) = true := by rw [bne_iff_ne]; exact hxy
          have HNE := Lib.hid (show xs ≠ ys from fun e => hxy (by
            have a := HX.out
            have b := HX'.out
            rw [e, b] at a
            exact (Option.some.inj a).symm))
          clear hxy
          go_wp2_with fail
          go_quiet (fail)
          go_wp2
          go_ret
          exact ⟨ret_bool (decide_eq_false HNE.out).symm, below_drewN hb _⟩
      · have hkn : k = n := by omega
        have HK := Lib.hid hkn
        clear hkn
        go_wp2
        go_ret
        refine ⟨ret_bool ?_, hb⟩
        have hp := hpre.out
        rw [HK.out, List.take_of_length_le (by rw [HL.out]; omega), List.take_of_length_le (by rw [HL'.out]; omega)] at hp
        simp [hp]
  · have hne : ((n : Int) != m) = true := by rw [bne_iff_ne]; omega
    have HN := Lib.hid hnm
    clear hnm
    go_enter Tryd.func45, Tryd.ntmps45
    go_wp2
    go_ret
    refine ⟨ret_bool ?_, Below.refl _ _⟩
    simp
    rintro rfl
    exact HN.out (HL.out.symm.trans HL'.out)
/-- the marks that are laid into a slice of bools -/
def marksO (k : Int) (n : Nat) : List Bool := (List.range n).map fun i => ((k + (i : Nat)) % 3 == 0)
theorem marksO_len (k : Int) (n : Nat) : (marksO k n).length = n := by simp [marksO]
theorem set_marksO (k : Int) (xs : List Bool) {i : Nat} (h : i < xs.length) : (marksO k i ++ xs.drop i).set i ((k + i) % 3 == 0) = marksO k (i + 1) ++ xs.drop (i + 1) := by
  rw [List.set_append_right _ _ (by rw [marksO_len]; omega), marksO_len, Nat.sub_self]
  rw [List.drop_eq_getElem_cons h, List.set_cons_zero]
  simp [marksO, List.range_succ]
set_option maxHeartbeats 1000000 in
theorem markBoolS_any (v : Value) (xs : List Bool) (k : Int) (base : Nat) (w : World) (h : OwnO w base v xs) (hk : 0 ≤ k) (hk2 : k ≤ 1099511627776) (hn : xs.length ≤ 1099511627776) :
    Calls Tryd.prog 47 #[v, .int .i64 k] w fun e w' => e = .returned (.int .i64 (k + xs.length)) ∧ OwnO w' base v (marksO k xs.length) ∧ w.grownBy w' v.ownBlock := by
  obtain ⟨A, c, rfl, hA⟩ := h.form
  obtain ⟨n, hn'⟩ : ∃ n, xs.length = n := ⟨_, rfl⟩
  rw [hn'] at h hn hA ⊢
  go_enter Tryd.func47, Tryd.ntmps47
  go_wp2
  go_loopw [1, 5] (fun q a wr => ∃ i : Nat, i ≤ n ∧ a = .int .i64 i ∧ q = .int .i64 (k + i) ∧ OwnO wr base (.slice A n c) (marksO k i ++ xs.drop i) ∧ w.grownBy wr (Value.slice A n c).ownBlock) (fun _ a _ => n - (intOf a).toNat)
  case atStart => exact ⟨0, Nat.zero_le _, rfl, by simp, by simpa [marksO] using h, World.grownBy.refl _ _⟩
  case round =>
    clear h
    obtain ⟨i, hi, rfl, rfl, ho, hg⟩ := hrel
    have hl : (marksO k i ++ xs.drop i).length = n := by simp [marksO]; omega
    by_cases hlt : i < n
    · obtain ⟨g, rfl, hbg, hgl⟩ := hA (by omega)
      obtain ⟨g', o', x, e', _, _, c1⟩ := ho.reads.at_ (k := i) (by omega)
      injection e' with e'
      injection e' with e1 e2
      subst e1 e2
      rw [Nat.zero_add] at c1
      have fz : wr.frozen? ⟨g, i, none⟩ = false := ho.frozen hl i
      have t1 : (i : Int) < n := by omega
      have on := OwnO.cast (set_marksO k xs (show i < xs.length by omega)) (ho.put' (j := i) hl ((k + i) % 3 == 0))
      have gn := only_put hg i (.bool ((k + i) % 3 == 0))
      clear ho hl hA
      go_wp2
      go_roundw
      case rel => exact ⟨i + 1, by omega, by go_num, int_eq (by omega), on, gn⟩
      case measure => simp [intOf]; omega
    · obtain rfl : i = n := by omega
      have ho : OwnO wr base (.slice A i c) (marksO k i) := by
        rw [List.drop_of_length_le (by omega), List.append_nil] at ho
        exact ho
      clear hl hA
      go_wp2
      go_ret
      exact ⟨rfl, ho, hg⟩
section
variable {H : Type} {enc : TypeId × Value → H} {P : Program} {W W' : World}
/-- a slice of bools that came in -/
theorem open_bools {t e : TypeId} {r : Reach} {b0 : Nat} {v : Value} {d : DataW H} {ps : List MemPlace} (ht : P.underlying t = some (.slice e)) (he : P.underlying e = some .bool) (ce : P.cellsOf e = 1)
    (hval : Value.okWide P W r b0 t v) (h : DataW.Trod enc P W 0 (fun _ => true) true t v d ps) (hlt : ∀ x ∈ ps, x.block < W.heap.size) :
    ∃ (A : Option Addr) (n c : Nat) (xs : List Bool), v = .slice A n c ∧ n ≤ c ∧ n ≤ 9223372036854775807 ∧ OS W W.heap.size A n xs := by
  obtain ⟨A, n, c, rfl⟩ := okWide_slice ht hval
  obtain ⟨fuel, hf⟩ := h
  rcases open_slice ht hf with ⟨h0, _⟩ | ⟨a, len, cap, m, n', D, Pl, hcs, hb, hl, hm, hmm, hx, hi⟩
  · simp [Value.cells] at h0
    obtain ⟨rfl, rfl, rfl⟩ := h0
    exact ⟨none, 0, 0, [], rfl, by omega, by omega, OS.none_ _ _ _⟩
  · simp [Value.cells] at hcs
    obtain ⟨rfl, rfl, rfl⟩ := hcs
    simp only [if_true] at hmm
    subst hmm
    have each : ∀ i, i < n → ∃ x : Bool, W.cell? (a.add i) = some (.bool x) := by
      intro i hin
      obtain ⟨cs', h1, h2⟩ := hi i (by omega)
      rw [ce] at h1
      obtain ⟨_, hlen, hcell⟩ := World.cells?_some h1
      obtain ⟨u, e2, _⟩ := DataW.trod_bool he h2
      match cs', hlen with
      | [v0], _ =>
        simp at e2
        subst e2
        have q0 := hcell 0 (by omega)
        rw [add_add] at q0
        exact ⟨u, by simpa using q0⟩
    obtain ⟨F, hF⟩ := choose_lt each
    refine ⟨some a, n, _, (List.range n).map F, rfl, hl, by unfold maxLen at hm; omega, by simp, ?_⟩
    intro hn
    have h0 := hF 0 hn
    simp [Addr.add] at h0
    have ha := addr_of_cell h0
    have hblt : a.block < W.heap.size := by
      apply hlt (.cell a.block a.off)
      have hps := congrArg Prod.snd hx
      simp only [] at hps
      rw [hps, ce]
      apply List.mem_append_left
      rw [ha]
      simp [MemPlace.row]
      omega
    refine ⟨a.block, a.off, by rw [← ha], hblt, fun k x hx => ?_⟩
    rcases Nat.lt_or_ge k n with hk | hk
    · simp only [List.getElem?_map] at hx
      rw [List.getElem?_range hk] at hx
      simp at hx
      subst hx
      have q := hF k hk
      rw [ha, add_none] at q
      exact q
    · rw [List.getElem?_eq_none (by simpa using hk)] at hx
      cases hx
end
end Go.Proofs.YthmddmddcdofaaaDoor

namespace Go.Proofs.YthmddmddcdofaaaDoor
open Go.RowKit
set_option maxRecDepth 100000
theorem tiny_sc (h : Hp) (bs : List Bool) : Tiny (Hps.sweepH h bs).1 := by
  rcases Hps.sweepH_cases h bs with e | ⟨_, _, hx, e⟩
  · rw [e]
    exact tiny_zero
  · rw [e]
    exact tiny_valid hx
theorem markKH_posS (h : Hp) : 0 ≤ markKH 1 h := by
  simp only [markKH, mkK]
  omega
theorem markKH_leS {h : Hp} (hz : sizeH h ≤ 1048576) : markKH 1 h ≤ 1000000000 := by
  unfold sizeH at hz
  simp only [markKH, mkK]
  omega
theorem size_small {h : Hp} (hz : sizeH h ≤ 1048576) : h.cs.length ≤ 1048576 ∧ h.rt.length ≤ 1048576 ∧ ∀ cl ∈ h.cs, cl.r.length ≤ 1048576 := by
  unfold sizeH at hz
  exact ⟨by omega, by omega, fun cl hcl => by have := refN_mem hcl; omega⟩
theorem OwnHx.apart_box {w : World} {base g : Nat} {vc vr : Value} {rvs : List Value} {h : Hp} {cs : Array Value} (o : OwnHx w base vc vr rvs h) (hr : Rw w g 26 cs) : Apart (some g) (vc :: vr :: rvs) := fun v hv => by
  right
  intro e
  simp only [List.mem_cons] at hv
  rcases hv with rfl | rfl | hv
  · exact row_type o.row hr (by decide) e.symm
  · exact row_type o.roots hr (by decide) e.symm
  · obtain ⟨i, hi⟩ := List.mem_iff_getElem?.1 hv
    have hlt := (List.getElem?_eq_some_iff.1 hi).1
    have hc := List.getElem?_eq_getElem (show i < h.cs.length by rw [← o.len]; exact hlt)
    exact row_type (o.refs i _ v hc hi) hr (by decide) e.symm
set_option maxHeartbeats 8000000 in
theorem exactSweepCells_walk (A R F : Option Addr) (n c m d p fc : Nat) (h : Hp) (bs : List Bool) (w : World) (hT : TzT w) (hs : HS w w.heap.size A n R m h) (hof : OS w w.heap.size F p bs) (hn : n ≤ 9223372036854775807) (hm : m ≤ 9223372036854775807) (hb : ∀ cl ∈ h.cs, cl.r.length ≤ 9223372036854775807) :
    Calls Tryd.prog 9 #[heapV A n c R m d, .slice F p fc] w fun e w' => e = .returned (.bool true) ∧ Below w.heap.size w w' := by
  have HTZ := Lib.hid hT
  clear hT
  have b0 : Below w.heap.size w (w.alloc (.cells #[.slice A n c, .slice R m d] 60)) := (Below.refl _ _).alloc (Nat.le_refl _) _
  have s0 := hs.up b0
  have q0 := Rw.new w 60 #[.slice A n c, .slice R m d]
  have hlc := hs.cells.1
  have hlr := hs.roots.1
  by_cases hp1 : p ≤ 1048576
  case neg =>
    have hp' : (1048576 : Int) < (p : Int) := by omega
    go_enter Tryd.func9, Tryd.ntmps9
    go_wp2_with fail
    go_ret
    exact ⟨rfl, b0⟩
  have hp' : decide ((1048576 : Int) < (p : Int)) = false := by simp; omega
  have HBL := Lib.hid hof.1
  go_enter Tryd.func9, Tryd.ntmps9
  go_wp2_with fail
  refine (szHeap_any _ _ _ _ _ _ h _ _ s0 (by omega) (by omega) hn hm hb).mono ?_
  rintro e w1 ⟨rfl, b1⟩
  replace q0 := q0.keep b1 q0.lt
  have bbk := b0.trans (b1.mono b0.size)
  clear b1 s0 b0
  by_cases hz : sizeH h ≤ 1048576
  case neg =>
    have HL : leftOf 1048576 (sizeH h) = -1 := by rw [leftOf, if_neg (by omega)]
    rw [HL]
    go_wp2_with fail
    go_ret
    exact ⟨rfl, bbk⟩
  have HL : leftOf 1048576 (sizeH h) = 1048576 - (sizeH h : Int) := by rw [leftOf, if_pos (by omega)]
  rw [HL]
  obtain ⟨z1, z2, z3⟩ := size_small hz
  rw [hlc] at z1
  rw [hlr] at z2
  have Z3 := Lib.hid (fun cl (hcl : cl ∈ h.cs) => show cl.r.length ≤ 1099511627776 by have := z3 cl hcl; omega)
  obtain ⟨lz, hlz⟩ : ∃ lz : Int, (1048576 : Int) - (sizeH h : Int) = lz := ⟨_, rfl⟩
  have hlz0 : decide (lz < 0) = false := decide_eq_false (by omega)
  rw [hlz]
  obtain ⟨ga, hga⟩ : ∃ ga, w.heap.size = ga := ⟨_, rfl⟩
  rw [hga] at q0 ⊢
  have HGA := Lib.hid hga
  have hgl := q0.lt
  have xa0 : w1.cell? ⟨ga, 0, none⟩ = some (.slice A n c) := q0.cell 0
  have xa1 : w1.cell? ⟨ga, 1, none⟩ = some (.slice R m d) := q0.cell 1
  have HZX := Lib.hid hz
  clear HL hlz hz z3 hb hlc hlr hga
  have T := tiny_sc h bs
  obtain ⟨hh, hhe⟩ : ∃ hh, (Hps.sweepH h bs).1 = hh := ⟨_, rfl⟩
  obtain ⟨vb, hvb⟩ : ∃ vb, (Hps.sweepH h bs).2 = vb := ⟨_, rfl⟩
  rw [hhe] at T
  have HH := Lib.hid hhe
  have HVB := Lib.hid hvb
  obtain ⟨nn, hnn⟩ : ∃ nn, hh.cs.length = nn := ⟨_, rfl⟩
  obtain ⟨mm, hmm⟩ : ∃ mm, hh.rt.length = mm := ⟨_, rfl⟩
  have hn40 : nn ≤ 40 := by have := T.1; omega
  have hm4 : mm ≤ 4 := by have := T.2.1; omega
  have H3 := Lib.hid (fun cl (hcl : cl ∈ hh.cs) => show cl.r.length ≤ 1099511627776 by have := T.2.2 cl hcl; omega)
  have HSZ := Lib.hid T.size
  have E0 := Lib.hid hnn
  have E4 := Lib.hid hmm
  have EA := Lib.hid hs.cells.1
  have EB := Lib.hid hs.roots.1
  have hvv : (vb != vb) = false := by simp
  obtain ⟨kv, hkv⟩ : ∃ kv, markKH 1 hh = kv := ⟨_, rfl⟩
  have hk0 : decide (kv < 0) = false := by
    rw [← hkv]
    refine decide_eq_false ?_
    simp only [markKH, mkK]
    omega
  have hkk : (kv != kv) = false := by simp
  obtain ⟨kx, hkx⟩ : ∃ kx, markKH 1 h = kx := ⟨_, rfl⟩
  have hkx1 : 0 ≤ kx := by rw [← hkx]; exact markKH_posS h
  have hkx2 : kx ≤ 1000000000 := by rw [← hkx]; exact markKH_leS HZX.out
  have hx0 : decide (kx + (bs.length : Int) < 0) = false := decide_eq_false (by omega)
  have HKV := Lib.hid hkv
  have HKX := Lib.hid hkx
  clear T hhe hvb hnn hmm hkv hkx
  have s1 := hs.up bbk
  go_wp2_with fail
  refine (toHeap_any _ _ _ _ _ _ h _ s1 (by omega) (by omega) Z3.out).mono ?_
  rintro e w2 ⟨u1, u2, rfl, ⟨rv2, ow2⟩, b2⟩
  have r2 := ow2.reads
  replace q0 := q0.keep b2 q0.lt
  replace bbk := bbk.trans (b2.mono bbk.size)
  clear b2 ow2 s1 xa0 xa1
  go_wp2_with fail
  refine (toBoolS_any _ _ _ bs _ (hof.up bbk) (by omega)).mono ?_
  rintro e w2a ⟨rfl, of2, b2⟩
  replace r2 := r2.up b2
  have t2 := of2.reads
  replace q0 := q0.keep b2 q0.lt
  replace bbk := bbk.trans (b2.mono bbk.size)
  clear b2 of2
  go_wp2_with fail
  refine (mSweepCells_any _ _ _ _ _ _ _ _ _ h bs _ r2 t2 (by omega) (by omega) (by omega)).mono ?_
  rw [HH.out, HVB.out]
  rintro e w3 ⟨vc0, vr0, rfl, ⟨rvs0, own0⟩, b2⟩
  obtain ⟨A0, c0, R0, d0, rfl, rfl, -⟩ := own0.form
  rw [E0.out, E4.out] at own0 ⊢
  have bA : Below w3.heap.size w3 (w3.alloc (.cells #[.slice A0 nn c0, .slice R0 mm d0] 26)) := (Below.refl _ _).alloc (Nat.le_refl _) _
  have o0 := own0.below bA (Nat.le_refl _)
  have x0 := Rw.new w3 26 #[.slice A0 nn c0, .slice R0 mm d0]
  replace q0 := (q0.keep b2 q0.lt).alloc (.cells #[.slice A0 nn c0, .slice R0 mm d0] 26)
  have bb1 := (bbk.trans (b2.mono bbk.size)).trans (bA.mono (bbk.trans (b2.mono bbk.size)).size)
  clear own0 bA b2 r2 t2 bbk
  go_upto_region 8 with fail
  generalize w3.alloc (.cells #[.slice A0 nn c0, .slice R0 mm d0] 26) = w5 at o0 x0 q0 bb1 ⊢
  generalize w3.heap.size = g5 at x0 ⊢
  have hga5 := q0.lt
  have hp5 := x0.lt
  have hs5 := bb1.size
  have s1 := hs.up bb1
  have SA := Lib.hid (fun u (hu : u ∈ (Value.slice A0 nn c0) :: (Value.slice R0 mm d0) :: rvs0) k (hk : u.ownBlock = some k) => (o0.blocks hu hk).2)
  have xa0 : w5.cell? ⟨ga, 0, none⟩ = some (.slice A n c) := q0.cell 0
  have xa1 : w5.cell? ⟨ga, 1, none⟩ = some (.slice R m d) := q0.cell 1
  go_wp2_with fail
  refine (toHeap_any _ _ _ _ _ _ h _ s1 (by omega) (by omega) Z3.out).mono ?_
  rintro e w6 ⟨g1, g2, rfl, ⟨rvsx, own⟩, b2⟩
  have bA : Below w6.heap.size w6 (w6.alloc (.cells #[.slice (some ⟨g1, 0, none⟩) n n, .slice (some ⟨g2, 0, none⟩) m m] 26)) := (Below.refl _ _).alloc (Nat.le_refl _) _
  have rx := own.reads.up bA
  have ox := own.below bA (Nat.le_refl _)
  have qx := Rw.new w6 26 #[.slice (some ⟨g1, 0, none⟩) n n, .slice (some ⟨g2, 0, none⟩) m m]
  replace q0 := (q0.keep b2 q0.lt).alloc (.cells #[.slice (some ⟨g1, 0, none⟩) n n, .slice (some ⟨g2, 0, none⟩) m m] 26)
  have bbk := (bb1.trans (b2.mono bb1.size)).trans (bA.mono (bb1.trans (b2.mono bb1.size)).size)
  have hwx := b2.size
  replace x0 := (x0.keep b2 x0.lt).alloc (.cells #[.slice (some ⟨g1, 0, none⟩) n n, .slice (some ⟨g2, 0, none⟩) m m] 26)
  replace o0 := (o0.below b2 (Nat.le_refl _)).below bA (Nat.le_refl _)
  have SX := Lib.hid (fun u (hu : u ∈ (Value.slice (some ⟨g1, 0, none⟩) n n) :: (Value.slice (some ⟨g2, 0, none⟩) m m) :: rvsx) k (hk : u.ownBlock = some k) => own.blocks hu hk)
  clear own bA b2 s1 xa0 xa1
  go_upto_region 9 with fail
  generalize w6.alloc (.cells #[.slice (some ⟨g1, 0, none⟩) n n, .slice (some ⟨g2, 0, none⟩) m m] 26) = w7a at rx ox qx q0 bbk x0 o0 ⊢
  obtain ⟨gx, hgxe⟩ : ∃ gx, w6.heap.size = gx := ⟨_, rfl⟩
  rw [hgxe] at qx hwx SX ⊢
  have hgx := qx.lt
  have hgl := q0.lt
  clear hgxe bb1
  have hgz7 := hgx
  go_wp2_with fail
  refine (toBoolS_any _ _ _ bs _ (hof.up bbk) (by omega)).mono ?_
  rintro e w7 ⟨rfl, of2, b2⟩
  have zb := of2
  replace rx := rx.up b2
  replace ox := ox.below b2 (Nat.le_refl _)
  replace qx := qx.keep b2 qx.lt
  replace q0 := q0.keep b2 q0.lt
  replace x0 := x0.keep b2 x0.lt
  replace o0 := o0.below b2 (Nat.le_refl _)
  replace bbk := bbk.trans (b2.mono bbk.size)
  clear b2 of2
  obtain ⟨gz, hgz⟩ : ∃ gz, w7a.heap.size = gz := ⟨_, rfl⟩
  rw [hgz] at zb hgz7 ⊢
  clear hgz hgx hgl
  have hzl := (World.ownsRow.lt zb gz rfl).2
  have hgx := qx.lt
  have hgl := q0.lt
  have SZX := Lib.hid (fun u (hu : u ∈ (Value.slice (some ⟨g1, 0, none⟩) n n) :: (Value.slice (some ⟨g2, 0, none⟩) m m) :: rvsx) => show (Value.slice (some ⟨gz, 0, none⟩) p p).ownBlock = none ∨ (Value.slice (some ⟨gz, 0, none⟩) p p).ownBlock ≠ u.ownBlock from .inr fun e => by
      have := (SX.out u hu gz e.symm).2
      omega)
  have S0Z : Hid (Apart (some gz) ((Value.slice A0 nn c0) :: (Value.slice R0 mm d0) :: rvs0)) := Lib.hid fun u hu => .inr fun e => by
      have := SA.out u hu gz e
      omega
  have xc0 : w7.cell? ⟨gx, 0, none⟩ = some (.slice (some ⟨g1, 0, none⟩) n n) := qx.cell 0
  have xc1 : w7.cell? ⟨gx, 1, none⟩ = some (.slice (some ⟨g2, 0, none⟩) m m) := qx.cell 1
  go_wp2_with fail
  refine (sweepCells_any _ _ _ _ _ _ _ _ _ h bs _ (HTZ.out.below bbk) rx zb.reads (by omega) (by omega) (by omega) (Nat.le_refl _) (Nat.le_refl _)).mono ?_
  rw [HH.out, HVB.out]
  rintro e w20 ⟨vc1, vr1, rfl, ⟨rvs1, own1⟩, b2⟩
  obtain ⟨A1, c1, R1, d1, rfl, rfl, -⟩ := own1.form
  rw [E0.out, E4.out] at own1 ⊢
  have bA : Below w20.heap.size w20 (w20.alloc (.cells #[.slice A1 nn c1, .slice R1 mm d1] 26)) := (Below.refl _ _).alloc (Nat.le_refl _) _
  have o1 := own1.below bA (Nat.le_refl _)
  have x1 := Rw.new w20 26 #[.slice A1 nn c1, .slice R1 mm d1]
  have hg9 := b2.size
  have hw7 := hgx
  replace q0 := (q0.keep b2 q0.lt).alloc (.cells #[.slice A1 nn c1, .slice R1 mm d1] 26)
  replace qx := (qx.keep b2 qx.lt).alloc (.cells #[.slice A1 nn c1, .slice R1 mm d1] 26)
  replace x0 := (x0.keep b2 x0.lt).alloc (.cells #[.slice A1 nn c1, .slice R1 mm d1] 26)
  replace o0 := (o0.below b2 (Nat.le_refl _)).below bA (Nat.le_refl _)
  replace ox := (ox.below b2 (Nat.le_refl _)).below bA (Nat.le_refl _)
  replace zb := (zb.below b2 (Nat.le_refl _)).below bA (Nat.le_refl _)
  replace bbk := (bbk.trans (b2.mono bbk.size)).trans (bA.mono (bbk.trans (b2.mono bbk.size)).size)
  clear own1 bA b2 rx xc0 xc1 hgl hgx
  go_upto_region 11 with fail
  generalize w20.alloc (.cells #[.slice A1 nn c1, .slice R1 mm d1] 26) = w8 at o0 o1 x0 x1 ox qx q0 zb bbk ⊢
  generalize w20.heap.size = g9 at x1 hg9 ⊢
  have SB := Lib.hid (fun u (hu : u ∈ (Value.slice A1 nn c1) :: (Value.slice R1 mm d1) :: rvs1) k (hk : u.ownBlock = some k) => o1.blocks hu hk)
  have S01 := Lib.hid (fun v (hv : v ∈ (Value.slice A0 nn c0) :: (Value.slice R0 mm d0) :: rvs0) u (hu : u ∈ (Value.slice A1 nn c1) :: (Value.slice R1 mm d1) :: rvs1) => show v.ownBlock = none ∨ v.ownBlock ≠ u.ownBlock by
    cases e : v.ownBlock with
    | none => exact .inl rfl
    | some k =>
      right
      intro e'
      have h1 := SA.out v hv k e
      have h2 := (SB.out u hu k e'.symm).1
      omega)
  have S0X := Lib.hid (fun v (hv : v ∈ (Value.slice A0 nn c0) :: (Value.slice R0 mm d0) :: rvs0) u (hu : u ∈ (Value.slice (some ⟨g1, 0, none⟩) n n) :: (Value.slice (some ⟨g2, 0, none⟩) m m) :: rvsx) => show v.ownBlock = none ∨ v.ownBlock ≠ u.ownBlock by
    cases e : v.ownBlock with
    | none => exact .inl rfl
    | some k =>
      right
      intro e'
      have h1 := SA.out v hv k e
      have h2 := (SX.out u hu k e'.symm).1
      omega)
  have S1X := Lib.hid (fun v (hv : v ∈ (Value.slice A1 nn c1) :: (Value.slice R1 mm d1) :: rvs1) u (hu : u ∈ (Value.slice (some ⟨g1, 0, none⟩) n n) :: (Value.slice (some ⟨g2, 0, none⟩) m m) :: rvsx) => show v.ownBlock = none ∨ v.ownBlock ≠ u.ownBlock by
    cases e : v.ownBlock with
    | none => exact .inl rfl
    | some k =>
      right
      intro e'
      have h1 := (SB.out v hv k e).1
      have h2 := (SX.out u hu k e'.symm).2
      omega)
  have S1Z : Hid (Apart (some gz) ((Value.slice A1 nn c1) :: (Value.slice R1 mm d1) :: rvs1)) := Lib.hid fun u hu => .inr fun e => by
    have := (SB.out u hu gz e).1
    omega
  have y0 : w8.cell? ⟨g5, 0, none⟩ = some (.slice A0 nn c0) := x0.cell 0
  have y1 : w8.cell? ⟨g5, 1, none⟩ = some (.slice R0 mm d0) := x0.cell 1
  have y2 : w8.cell? ⟨g9, 0, none⟩ = some (.slice A1 nn c1) := x1.cell 0
  have y3 : w8.cell? ⟨g9, 1, none⟩ = some (.slice R1 mm d1) := x1.cell 1
  go_wp2_with fail
  refine (eqHeap_any _ _ _ _ _ _ _ _ _ _ _ _ hh hh _ o1.reads o0.reads (by omega) (by omega) (by omega) (by omega) H3.out H3.out).mono ?_
  rw [decide_eq_true rfl]
  rintro e w9 ⟨rfl, b9⟩
  replace o0 := o0.below b9 (Nat.le_refl _)
  replace o1 := o1.below b9 (Nat.le_refl _)
  replace ox := ox.below b9 (Nat.le_refl _)
  replace zb := zb.below b9 (Nat.le_refl _)
  replace x0 := x0.keep b9 x0.lt
  replace x1 := x1.keep b9 x1.lt
  replace qx := qx.keep b9 qx.lt
  replace q0 := q0.keep b9 q0.lt
  replace bbk := bbk.trans (b9.mono bbk.size)
  clear b9 y0 y1 y2 y3
  have rx := ox.reads
  have hgx := qx.lt
  have hgl := q0.lt
  have xa0 : w9.cell? ⟨ga, 0, none⟩ = some (.slice A n c) := q0.cell 0
  have xa1 : w9.cell? ⟨ga, 1, none⟩ = some (.slice R m d) := q0.cell 1
  have xc0 : w9.cell? ⟨gx, 0, none⟩ = some (.slice (some ⟨g1, 0, none⟩) n n) := qx.cell 0
  have xc1 : w9.cell? ⟨gx, 1, none⟩ = some (.slice (some ⟨g2, 0, none⟩) m m) := qx.cell 1
  go_upto_region 13 with fail
  refine wp_region_inv (by kernel_rfl) (by kernel_rfl) (fun L ac ww => ∃ t52 t53 t54 t55 t56 : Value, ac = { tmps := #[heapV A n c R m d, Value.slice F p fc, Value.pointer (some { block := ga, off := 0 }), undef, Value.bool false, Value.int IntKind.i64 lz, Value.pointer (some { block := g5, off := 0 }), Value.int IntKind.i64 vb, Value.pointer (some { block := gx, off := 0 }), Value.slice (some { block := gz, off := 0 }) p p, Value.pointer (some { block := g9, off := 0 }), Value.int IntKind.i64 vb, undef, undef, undef, undef, undef, Value.slice F p fc, Value.int IntKind.i64 ↑p, Value.bool false, Value.agg #[Value.slice A n c, Value.slice R m d], Value.int IntKind.i64 1048576, Value.int IntKind.i64 lz, Value.int IntKind.i64 lz, Value.bool false, Value.tuple #[Value.agg #[Value.slice A0 nn c0, Value.slice R0 mm d0], Value.int IntKind.i64 vb], Value.agg #[Value.slice A n c, Value.slice R m d], heapV (some { block := u1, off := 0 }) n n (some { block := u2, off := 0 }) m m, Value.slice F p fc, Value.slice (some { block := w2.heap.size, off := 0 }) p p, Value.tuple #[Value.agg #[Value.slice A0 nn c0, Value.slice R0 mm d0], Value.int IntKind.i64 vb], Value.agg #[Value.slice A0 nn c0, Value.slice R0 mm d0], Value.int IntKind.i64 vb, Value.agg #[Value.slice A n c, Value.slice R m d], heapV (some { block := g1, off := 0 }) n n (some { block := g2, off := 0 }) m m, Value.slice F p fc, Value.slice (some { block := gz, off := 0 }) p p, Value.tuple #[Value.agg #[Value.slice A1 nn c1, Value.slice R1 mm d1], Value.int IntKind.i64 vb], Value.agg #[Value.slice (some { block := g1, off := 0 }) n n, Value.slice (some { block := g2, off := 0 }) m m], Value.slice (some { block := gz, off := 0 }) p p, Value.tuple #[Value.agg #[Value.slice A1 nn c1, Value.slice R1 mm d1], Value.int IntKind.i64 vb], Value.agg #[Value.slice A1 nn c1, Value.slice R1 mm d1], Value.int IntKind.i64 vb, Value.agg #[Value.slice A1 nn c1, Value.slice R1 mm d1], Value.agg #[Value.slice A0 nn c0, Value.slice R0 mm d0], Value.bool true, Value.bool false, Value.bool false, Value.int IntKind.i64 vb, Value.int IntKind.i64 vb, Value.bool false, Value.bool false, t52, t53, t54, t55, t56, undef, undef, undef, undef, undef, undef, undef, undef, undef, undef, undef, undef, undef, undef, undef, undef, undef, undef, undef, undef, undef, undef, undef, undef, undef, undef, undef, undef, undef, undef, undef, undef, undef, undef, undef, undef, undef, undef, undef, undef, undef, undef, undef, undef, undef, undef, undef, undef, undef, undef, undef, undef, undef, undef, undef, undef, undef, undef, undef, undef], defers := [] } ∧ (Below w9.heap.size w9 ww) ∧ (L 0 = true → t52 = .agg #[.slice (some ⟨g1, 0, none⟩) n n, .slice (some ⟨g2, 0, none⟩) m m]) ∧ (L 1 = true → t53 = .agg #[.slice A n c, .slice R m d]) ∧ (L 2 = true → ∃ u1 u2 : Nat, t54 = .agg #[.slice (some ⟨u1, 0, none⟩) n n, .slice (some ⟨u2, 0, none⟩) m m] ∧ HS ww ww.heap.size (some ⟨u1, 0, none⟩) n (some ⟨u2, 0, none⟩) m h) ∧ (L 3 = true → t55 = .bool true) ∧ (L 4 = true → t56 = .bool false)) ?h0 ?hstep ?hdone
  case h0 => exact ⟨_, _, _, _, _, rfl, (Below.refl _ _).drew, (fun h => absurd h Bool.false_ne_true), (fun h => absurd h Bool.false_ne_true), (fun h => absurd h Bool.false_ne_true), (fun h => absurd h Bool.false_ne_true), (fun h => absurd h Bool.false_ne_true)⟩
  case hstep =>
    rintro L ac ww i o ho hL hd ⟨t52, t53, t54, t55, t56, rfl, I0, f0, f1, f2, f3, f4⟩
    have hi : i < 5 := (Array.getElem?_eq_some_iff.1 ho).1
    obtain rfl | rfl | rfl | rfl | rfl : i = 0 ∨ i = 1 ∨ i = 2 ∨ i = 3 ∨ i = 4 := by omega
    · obtain rfl := Option.some.inj ho
      have y0 : ww.cell? ⟨gx, 0, none⟩ = some (.slice (some ⟨g1, 0, none⟩) n n) := (I0.cell (p := ⟨gx, 0, none⟩) hgx).trans xc0
      have y1 : ww.cell? ⟨gx, 1, none⟩ = some (.slice (some ⟨g2, 0, none⟩) m m) := (I0.cell (p := ⟨gx, 1, none⟩) hgx).trans xc1
      refine wpOp_step rfl (fun K' hK => ?_)
      go_simp
      refine hK _ _ ?_
      exact ⟨_, _, _, _, _, rfl, (I0), (fun _ => rfl), (kp f1), (kp f2), (kp f3), (kp f4)⟩
    · obtain rfl := Option.some.inj ho
      have y0 : ww.cell? ⟨ga, 0, none⟩ = some (.slice A n c) := (I0.cell (p := ⟨ga, 0, none⟩) hgl).trans xa0
      have y1 : ww.cell? ⟨ga, 1, none⟩ = some (.slice R m d) := (I0.cell (p := ⟨ga, 1, none⟩) hgl).trans xa1
      refine wpOp_step rfl (fun K' hK => ?_)
      go_simp
      refine hK _ _ ?_
      exact ⟨_, _, _, _, _, rfl, (I0), (kp f0), (fun _ => rfl), (kp f2), (kp f3), (kp f4)⟩
    · obtain rfl := Option.some.inj ho
      have g1 := f1 (hd ⟨1, .data⟩ (by simp) rfl)
      subst g1
      refine wpOp_step rfl (fun K' hK => ?_)
      go_simp
      refine (toHeap_any _ _ _ _ _ _ h ww (hs.up (bbk.trans (I0.mono bbk.size))) (by omega) (by omega) Z3.out).mono ?_
      rintro e w' ⟨u1, u2, rfl, ⟨rv, ow⟩, b5⟩
      have hr9 := ow.reads
      refine hK _ _ ?_
      exact ⟨_, _, _, _, _, rfl, (I0.trans (b5.mono I0.size)), (kp f0), (kp f1), (fun _ => ⟨u1, u2, rfl, hr9⟩), (kp f3), (kp f4)⟩
    · obtain rfl := Option.some.inj ho
      have g0 := f0 (hd ⟨0, .data⟩ (by simp) rfl)
      have g2 := f2 (hd ⟨2, .data⟩ (by simp) rfl)
      subst g0
      obtain ⟨u1, u2, rfl, hr9⟩ := g2
      refine wpOp_step rfl (fun K' hK => ?_)
      go_simp
      refine (eqHeap_any _ _ _ _ _ _ _ _ _ _ _ _ h h ww (rx.up I0) hr9 (by omega) (by omega) (by omega) (by omega) Z3.out Z3.out).mono ?_
      rw [decide_eq_true rfl]
      rintro e w' ⟨rfl, b5⟩
      refine hK _ _ ?_
      exact ⟨_, _, _, _, _, rfl, (I0.trans (b5.mono I0.size)), (kp f0), (kp f1), (fun _ => ⟨u1, u2, rfl, hr9.up b5⟩), (fun _ => rfl), (kp f4)⟩
    · obtain rfl := Option.some.inj ho
      have g3 := f3 (hd ⟨3, .data⟩ (by simp) rfl)
      subst g3
      refine wpOp_step rfl (fun K' hK => ?_)
      go_simp
      refine hK _ _ ?_
      exact ⟨_, _, _, _, _, rfl, (I0), (kp f0), (kp f1), (kp f2), (kp f3), (fun _ => rfl)⟩
  case hdone =>
    rintro L ac ww hall ⟨t52, t53, t54, t55, t56, rfl, I0, f0, f1, f2, f3, f4⟩
    have e0 := f0 (hall 0 (by decide))
    have e1 := f1 (hall 1 (by decide))
    have e2 := f2 (hall 2 (by decide))
    have e3 := f3 (hall 3 (by decide))
    have e4 := f4 (hall 4 (by decide))
    clear f0 f1 f2 f3 f4
    subst e3 e4
    clear e0 e1 e2 hall
    replace o0 := o0.below I0 (Nat.le_refl _)
    replace o1 := o1.below I0 (Nat.le_refl _)
    replace ox := ox.below I0 (Nat.le_refl _)
    replace zb := zb.below I0 (Nat.le_refl _)
    replace x0 := x0.keep I0 x0.lt
    replace x1 := x1.keep I0 x1.lt
    replace qx := qx.keep I0 qx.lt
    replace q0 := q0.keep I0 q0.lt
    replace bbk := bbk.trans (I0.mono bbk.size)
    clear xa0 xa1 xc0 xc1 I0 rx hgx hgl
    generalize ww = w10 at *
    go_wp2_with fail
    refine (toBoolS_any _ _ _ bs _ (hof.up bbk) (by omega)).mono ?_
    rintro e w10a ⟨rfl, of3, b3⟩
    replace o0 := o0.below b3 (Nat.le_refl _)
    replace o1 := o1.below b3 (Nat.le_refl _)
    replace ox := ox.below b3 (Nat.le_refl _)
    replace zb := zb.below b3 (Nat.le_refl _)
    replace x0 := x0.keep b3 x0.lt
    replace x1 := x1.keep b3 x1.lt
    replace qx := qx.keep b3 qx.lt
    replace q0 := q0.keep b3 q0.lt
    replace bbk := bbk.trans (b3.mono bbk.size)
    have t3 := of3.reads
    clear of3 b3
    go_wp2_with fail
    refine (eqBoolS_any _ _ _ _ _ _ bs bs _ zb.reads t3 (by omega) (by omega)).mono ?_
    rw [decide_eq_true rfl]
    rintro e w10b ⟨rfl, b3⟩
    replace o0 := o0.below b3 (Nat.le_refl _)
    replace o1 := o1.below b3 (Nat.le_refl _)
    replace ox := ox.below b3 (Nat.le_refl _)
    replace zb := zb.below b3 (Nat.le_refl _)
    replace x0 := x0.keep b3 x0.lt
    replace x1 := x1.keep b3 x1.lt
    replace qx := qx.keep b3 qx.lt
    replace q0 := q0.keep b3 q0.lt
    replace bbk := bbk.trans (b3.mono bbk.size)
    clear b3 t3
    have xc0 : w10b.cell? ⟨gx, 0, none⟩ = some (.slice (some ⟨g1, 0, none⟩) n n) := qx.cell 0
    have xc1 : w10b.cell? ⟨gx, 1, none⟩ = some (.slice (some ⟨g2, 0, none⟩) m m) := qx.cell 1
    have APX := ox.apart_box qx
    go_wp2_with fail
    refine (markHeap_any _ _ rvsx h _ _ _ ox (by omega) (by omega) (Nat.le_trans HZX.out (by decide))).mono ?_
    rw [HKX.out]
    rintro e w11 ⟨rfl, -, tx⟩
    replace o0 := o0.touched' tx S0X.out
    replace o1 := o1.touched' tx S1X.out
    replace x0 := x0.touched tx (fun u hu e => by have := (SX.out u hu _ e).1; omega)
    replace x1 := x1.touched tx (fun u hu e => by have := (SX.out u hu _ e).2; omega)
    replace q0 := q0.touched tx (fun u hu e => by have := (SX.out u hu _ e).1; omega)
    replace bbk : Below w.heap.size w w11 := tx.below bbk bbk.size (fun u hu k hk => by have := (SX.out u hu k hk).1; omega)
    have PX : OwnO w11 gz (.slice (some ⟨gz, 0, none⟩) p p) bs := row_touched zb tx SZX.out
    have hp5z : g5 ≠ gz := by omega
    have hp9z : g9 ≠ gz := by omega
    have hgaz : ga ≠ gz := by omega
    have hwz : w.heap.size ≤ gz := by omega
    clear ox qx tx xc0 xc1 APX zb
    go_wp2_with fail
    refine (markBoolS_any _ bs _ _ _ PX (by omega) (by omega) (by have := HBL.out; omega)).mono ?_
    rintro e w11b ⟨rfl, -, gg⟩
    replace o0 := o0.far gg S0Z.out
    replace o1 := o1.far gg S1Z.out
    replace x0 := x0.far gg (fun e => hp5z (Option.some.inj e))
    replace x1 := x1.far gg (fun e => hp9z (Option.some.inj e))
    replace q0 := q0.far gg (fun e => hgaz (Option.some.inj e))
    replace bbk : Below w.heap.size w w11b := bbk.grown gg bbk.size (fun k hk => by have : gz = k := Option.some.inj hk; omega)
    clear PX gg
    have y0 : w11b.cell? ⟨g5, 0, none⟩ = some (.slice A0 nn c0) := x0.cell 0
    have y1 : w11b.cell? ⟨g5, 1, none⟩ = some (.slice R0 mm d0) := x0.cell 1
    have y2 : w11b.cell? ⟨g9, 0, none⟩ = some (.slice A1 nn c1) := x1.cell 0
    have y3 : w11b.cell? ⟨g9, 1, none⟩ = some (.slice R1 mm d1) := x1.cell 1
    go_wp2_with fail
    refine (eqHeap_any _ _ _ _ _ _ _ _ _ _ _ _ hh hh _ o1.reads o0.reads (by omega) (by omega) (by omega) (by omega) H3.out H3.out).mono ?_
    rw [decide_eq_true rfl]
    rintro e w12 ⟨rfl, b12⟩
    replace o0 := o0.below b12 (Nat.le_refl _)
    replace o1 := o1.below b12 (Nat.le_refl _)
    replace x0 := x0.keep b12 x0.lt
    replace x1 := x1.keep b12 x1.lt
    replace q0 := q0.keep b12 q0.lt
    replace bbk := bbk.trans (b12.mono bbk.size)
    clear b12 y0 y1 y2 y3
    have y2 : w12.cell? ⟨g9, 0, none⟩ = some (.slice A1 nn c1) := x1.cell 0
    have y3 : w12.cell? ⟨g9, 1, none⟩ = some (.slice R1 mm d1) := x1.cell 1
    have AP1 := o1.apart_box x1
    go_wp2_with fail
    refine (markHeap_any _ _ rvs1 hh _ _ _ o1 (by omega) (by omega) HSZ.out).mono ?_
    rw [HKV.out]
    rintro e w13 ⟨rfl, m6, t6⟩
    replace o0 := o0.touched' t6 S01.out
    replace x0 := x0.touched t6 (fun u hu e => by have := (SB.out u hu _ e).1; omega)
    replace x1 := x1.touched t6 (fun u hu e => by rcases AP1 u hu with h1 | h1; rw [h1] at e; cases e; exact h1 e)
    replace q0 := q0.touched t6 (fun u hu e => by have := (SB.out u hu _ e).1; omega)
    replace bbk : Below w.heap.size w w13 := t6.below bbk bbk.size (fun u hu k hk => by have := (SB.out u hu k hk).1; omega)
    have r6 := m6.reads
    clear o1 t6 m6 y2 y3 AP1
    have y2 : w13.cell? ⟨g9, 0, none⟩ = some (.slice A1 nn c1) := x1.cell 0
    have y3 : w13.cell? ⟨g9, 1, none⟩ = some (.slice R1 mm d1) := x1.cell 1
    go_wp2_with fail
    refine (heldHeap_any _ _ _ _ _ _ hh _ _ r6 E0.out E4.out (by omega) (by omega) HSZ.out).mono ?_
    rw [HKV.out]
    rintro e w14 ⟨rfl, b14⟩
    replace o0 := o0.below b14 (Nat.le_refl _)
    replace x0 := x0.keep b14 x0.lt
    replace x1 := x1.keep b14 x1.lt
    replace q0 := q0.keep b14 q0.lt
    replace r6 := r6.up b14
    replace bbk := bbk.trans (b14.mono bbk.size)
    clear b14 y2 y3
    have hgl := q0.lt
    have xa0 : w14.cell? ⟨ga, 0, none⟩ = some (.slice A n c) := q0.cell 0
    have xa1 : w14.cell? ⟨ga, 1, none⟩ = some (.slice R m d) := q0.cell 1
    clear S0X S1X SX
    have s1 := hs.up bbk
    go_wp2_with fail
    refine (toHeap_any _ _ _ _ _ _ h _ s1 (by omega) (by omega) Z3.out).mono ?_
    rintro e w2 ⟨u1, u2, rfl, ⟨rv2, ow2⟩, b2⟩
    have r2 := ow2.reads
    replace o0 := o0.below b2 (Nat.le_refl _)
    replace x0 := x0.keep b2 x0.lt
    replace x1 := x1.keep b2 x1.lt
    replace r6 := r6.up b2
    replace bbk := bbk.trans (b2.mono bbk.size)
    clear b2 ow2 s1 xa0 xa1 q0
    go_wp2_with fail
    refine (toBoolS_any _ _ _ bs _ (hof.up bbk) (by omega)).mono ?_
    rintro e w21a ⟨rfl, of2, b2⟩
    replace r2 := r2.up b2
    have t2 := of2.reads
    replace o0 := o0.below b2 (Nat.le_refl _)
    replace x0 := x0.keep b2 x0.lt
    replace x1 := x1.keep b2 x1.lt
    replace r6 := r6.up b2
    replace bbk := bbk.trans (b2.mono bbk.size)
    clear b2 of2
    go_wp2_with fail
    refine (sweepCells_any _ _ _ _ _ _ _ _ _ h bs _ (HTZ.out.below bbk) r2 t2 (by omega) (by omega) (by omega) (Nat.le_refl _) (Nat.le_refl _)).mono ?_
    rw [HH.out, HVB.out]
    rintro e w22 ⟨vc2, vr2, rfl, ⟨rvs2, own2⟩, b2⟩
    obtain ⟨A2, c2, R2, d2, rfl, rfl, -⟩ := own2.form
    rw [E0.out, E4.out] at own2 ⊢
    have bA : Below w22.heap.size w22 (w22.alloc (.cells #[.slice A2 nn c2, .slice R2 mm d2] 26)) := (Below.refl _ _).alloc (Nat.le_refl _) _
    have r9 := own2.reads.up bA
    have x2 := Rw.new w22 26 #[.slice A2 nn c2, .slice R2 mm d2]
    replace o0 := (o0.below b2 (Nat.le_refl _)).below bA (Nat.le_refl _)
    replace x0 := (x0.keep b2 x0.lt).alloc (.cells #[.slice A2 nn c2, .slice R2 mm d2] 26)
    replace x1 := (x1.keep b2 x1.lt).alloc (.cells #[.slice A2 nn c2, .slice R2 mm d2] 26)
    replace r6 := (r6.up b2).up bA
    replace bbk := (bbk.trans (b2.mono bbk.size)).trans (bA.mono (bbk.trans (b2.mono bbk.size)).size)
    clear own2 bA b2 r2 t2
    go_upto_region 31 with fail
    generalize w22.alloc (.cells #[.slice A2 nn c2, .slice R2 mm d2] 26) = w15 at o0 x0 x1 x2 r6 r9 bbk ⊢
    generalize w22.heap.size = g14 at x2 ⊢
    have y0 : w15.cell? ⟨g5, 0, none⟩ = some (.slice A0 nn c0) := x0.cell 0
    have y1 : w15.cell? ⟨g5, 1, none⟩ = some (.slice R0 mm d0) := x0.cell 1
    have y4 : w15.cell? ⟨g14, 0, none⟩ = some (.slice A2 nn c2) := x2.cell 0
    have y5 : w15.cell? ⟨g14, 1, none⟩ = some (.slice R2 mm d2) := x2.cell 1
    go_wp2_with fail
    refine (eqHeap_any _ _ _ _ _ _ _ _ _ _ _ _ hh hh _ r9 o0.reads (by omega) (by omega) (by omega) (by omega) H3.out H3.out).mono ?_
    rw [decide_eq_true rfl]
    rintro e w16 ⟨rfl, b16⟩
    replace x1 := x1.keep b16 x1.lt
    replace r6 := r6.up b16
    replace bbk := bbk.trans (b16.mono bbk.size)
    clear b16 y0 y1 y4 y5 o0 x0 x2 r9
    have y2 : w16.cell? ⟨g9, 0, none⟩ = some (.slice A1 nn c1) := x1.cell 0
    have y3 : w16.cell? ⟨g9, 1, none⟩ = some (.slice R1 mm d1) := x1.cell 1
    go_wp2_with fail
    refine (heldHeap_any _ _ _ _ _ _ hh _ _ r6 E0.out E4.out (by omega) (by omega) HSZ.out).mono ?_
    rw [HKV.out]
    rintro e w17 ⟨rfl, b17⟩
    have bbf := bbk.trans (b17.mono bbk.size)
    go_wp2_with fail
    go_ret
    exact ⟨rfl, bbf⟩
end Go.Proofs.YthmddmddcdofaaaDoor

namespace Go.Proofs.YthmddmddcdofaaaDoor
open Go.ChangeShapes Go.WideShapes Go.ChangeAt Go.RowKit Go.Deep
section
variable {H : Type} {enc : TypeId × Value → H} {P : Program} {W : World}
/-- a slice of numbers -/
theorem nums_trod {t e : TypeId} {fuel : Nat} {v : Value} {x : DataW H × List MemPlace} (ht : P.underlying t = some (.slice e)) (he : P.underlying e = some (.int .i64)) (ce : P.cellsOf e = 1)
    (hf : DataW.trod enc P W 0 (fun _ => true) true fuel t [v] = some x) (hlt : ∀ y ∈ x.2, y.block < W.heap.size) :
    ∃ (A : Option Addr) (n c : Nat) (xs : List Int), v = .slice A n c ∧ n ≤ c ∧ n ≤ 9223372036854775807 ∧ IS W W.heap.size A n xs ∧ AllN xs := by
  rcases open_ints ht he ce hf with ⟨h0, _⟩ | ⟨a, len, cap, zs, hcs, hb, hl, hm, hz, hx, hi, hwf⟩
  · injection h0 with h0
    subst h0
    exact ⟨none, 0, 0, [], rfl, by omega, by omega, IS.none_ _ _ _, fun k v hv => by simp at hv⟩
  · injection hcs with hcs
    subst hcs
    simp only [if_true] at hz
    refine ⟨some a, len, cap, zs.take len, rfl, hl, by unfold maxLen at hm; omega, ⟨by rw [List.length_take]; omega, fun hn => ?_⟩, fun k v hv => i64_of_wf (hwf v (List.mem_of_mem_take (List.mem_of_getElem? hv)))⟩
    have h0 := hi 0 (by omega)
    simp [Addr.add] at h0
    have ha := addr_of_cell h0
    have hblt : a.block < W.heap.size := by
      apply hlt (.cell a.block a.off)
      rw [hx, hz, ha]
      simp [MemPlace.row]
      omega
    refine ⟨a.block, a.off, by rw [← ha], hblt, fun k y hk => ?_⟩
    have hkn := (List.getElem?_eq_some_iff.1 hk).1
    rw [List.length_take] at hkn
    rw [List.getElem?_take_of_lt (by omega)] at hk
    have hc := hi k (by omega)
    rw [ha, add_none, List.getD_eq_getElem?_getD, hk] at hc
    exact hc
/-- a slice of cells -/
theorem cells_trod {t e tb ti tr : TypeId} {f0 f1 f2 : Field} {fuel : Nat} {v : Value} {x : DataW H × List MemPlace} (ht : P.underlying t = some (.slice e)) (he : P.underlying e = some (.struct #[f0, f1, f2])) (ce : P.cellsOf e = 3)
    (t0 : f0.type = tb) (t1 : f1.type = ti) (t2 : f2.type = tr) (o0 : f0.offset = 0) (o1 : f1.offset = 1) (o2 : f2.offset = 2)
    (htb : P.underlying tb = some .bool) (hti : P.underlying ti = some (.int .i64)) (htr : P.underlying tr = some (.slice ti)) (cb : P.cellsOf tb = 1) (ci : P.cellsOf ti = 1) (cr : P.cellsOf tr = 1)
    (hf : DataW.trod enc P W 0 (fun _ => true) true fuel t [v] = some x) (hlt : ∀ y ∈ x.2, y.block < W.heap.size) :
    ∃ (A : Option Addr) (n c : Nat) (cs : List Cl), v = .slice A n c ∧ n ≤ c ∧ n ≤ 9223372036854775807 ∧ CS W W.heap.size A n cs ∧ ∀ cl ∈ cs, I64 cl.d ∧ AllN cl.r ∧ cl.r.length ≤ 9223372036854775807 := by
  rcases open_slice ht hf with ⟨h0, _⟩ | ⟨a, len, cap, m, n', D, Pl, hcs, hb, hl, hm, hmm, hx, hi⟩
  · injection h0 with h0
    subst h0
    exact ⟨none, 0, 0, [], rfl, by omega, by omega, CS.none_ _ _ _, fun cl hcl => by simp at hcl⟩
  · injection hcs with hcs
    subst hcs
    simp only [if_true] at hmm
    subst hmm
    have each : ∀ i, i < len → ∃ q : Cl × Option Addr × Nat × Nat, I64 q.1.d ∧ AllN q.1.r ∧ q.2.2.1 ≤ 9223372036854775807 ∧ W.cell? (a.add (i * 3)) = some (.bool q.1.u) ∧ W.cell? (a.add (i * 3 + 1)) = some (.int .i64 q.1.d) ∧ W.cell? (a.add (i * 3 + 2)) = some (.slice q.2.1 q.2.2.1 q.2.2.2) ∧ q.2.2.1 ≤ q.2.2.2 ∧ IS W W.heap.size q.2.1 q.2.2.1 q.1.r := by
      intro i hin
      obtain ⟨cs', h1, h2⟩ := hi i (by omega)
      rw [ce] at h1
      obtain ⟨_, hlen, hcell⟩ := World.cells?_some h1
      obtain ⟨ys, k, _, hys, _, hyl, hfd⟩ := DataW.trod_struct he h2
      match cs', hlen with
      | [v0, v1, v2], _ =>
        have g0 := hfd 0 f0 rfl
        have g1 := hfd 1 f1 rfl
        have g2 := hfd 2 f2 rfl
        rw [t0, o0, cb] at g0
        rw [t1, o1, ci] at g1
        rw [t2, o2, cr] at g2
        rw [List.getElem?_eq_getElem (by rw [hyl]; simp)] at g0 g1 g2
        obtain ⟨u, e0, _⟩ := DataW.trod_bool htb g0
        obtain ⟨n1, e1, _, w1⟩ := DataW.trod_int hti g1
        simp at e0 e1
        subst e0 e1
        have hlt2 : ∀ y ∈ (ys[2]'(by rw [hyl]; simp)).2, y.block < W.heap.size := fun y hy => by
          apply hlt
          rw [hx]
          apply List.mem_append_right
          rw [List.mem_flatMap]
          refine ⟨i, by simp; omega, ?_⟩
          have := congrArg Prod.snd hys
          simp only [] at this
          rw [this, List.mem_flatMap]
          exact ⟨_, List.getElem_mem _, hy⟩
        obtain ⟨A2, n2, c2, xs2, e2, hnc, hn2, hi2, ha2⟩ := nums_trod htr hti ci g2 hlt2
        subst e2
        have q0 := hcell 0 (by omega)
        have q1 := hcell 1 (by omega)
        have q2 := hcell 2 (by omega)
        rw [add_add] at q0 q1 q2
        exact ⟨(⟨u, n1, xs2⟩, A2, n2, c2), i64_of_wf w1, ha2, hn2, by simpa using q0, by simpa using q1, by simpa using q2, hnc, hi2⟩
    obtain ⟨F, hF⟩ := choose_lt each
    refine ⟨some a, len, _, (List.range len).map fun i => (F i).1, rfl, hl, by unfold maxLen at hm; omega, ⟨by simp, fun hn => ?_⟩, fun cl hcl => ?_⟩
    · have h0 := (hF 0 hn).2.2.2.1
      simp [Addr.add] at h0
      have ha := addr_of_cell h0
      have hblt : a.block < W.heap.size := by
        apply hlt (.cell a.block a.off)
        rw [hx, ce]
        apply List.mem_append_left
        rw [ha]
        simp [MemPlace.row]
        omega
      refine ⟨a.block, a.off, by rw [← ha], hblt, fun k c hk => ?_⟩
      have hkn : k < len := by
        have := (List.getElem?_eq_some_iff.1 hk).1
        simpa using this
      simp only [List.getElem?_map] at hk
      rw [List.getElem?_range hkn] at hk
      simp at hk
      subst hk
      obtain ⟨_, _, _, q1, q2, q3, q4, q5⟩ := hF k hkn
      rw [ha, add_none] at q1 q2 q3
      exact ⟨q1, by rw [Nat.add_assoc]; exact q2, _, _, _, by rw [Nat.add_assoc]; exact q3, q4, q5⟩
    · obtain ⟨i, hi', rfl⟩ := List.mem_map.1 hcl
      obtain ⟨q1, q2, q3, _, _, _, _, q5⟩ := hF i (by simpa using hi')
      exact ⟨q1, q2, by rw [q5.1]; exact q3⟩
/-- a heap -/
theorem open_heap {t tc tn e tb ti : TypeId} {h0 h1 f0 f1 f2 : Field} {r : Reach} {b0 : Nat} {v : Value} {d : DataW H} {ps : List MemPlace}
    (hh : P.underlying t = some (.struct #[h0, h1])) (ch : P.cellsOf t = 2) (s0 : h0.type = tc) (s1 : h1.type = tn) (p0 : h0.offset = 0) (p1 : h1.offset = 1) (ctc : P.cellsOf tc = 1) (ctn : P.cellsOf tn = 1)
    (htc : P.underlying tc = some (.slice e)) (htn : P.underlying tn = some (.slice ti)) (he : P.underlying e = some (.struct #[f0, f1, f2])) (ce : P.cellsOf e = 3)
    (t0 : f0.type = tb) (t1 : f1.type = ti) (t2 : f2.type = tn) (o0 : f0.offset = 0) (o1 : f1.offset = 1) (o2 : f2.offset = 2)
    (htb : P.underlying tb = some .bool) (hti : P.underlying ti = some (.int .i64)) (cb : P.cellsOf tb = 1) (ci : P.cellsOf ti = 1)
    (hval : Value.okWide P W r b0 t v) (h : DataW.Trod enc P W 0 (fun _ => true) true t v d ps) (hlt : ∀ x ∈ ps, x.block < W.heap.size) :
    ∃ (A R : Option Addr) (n c m dd : Nat) (hp : Hp), v = .agg #[.slice A n c, .slice R m dd] ∧ n ≤ 9223372036854775807 ∧ m ≤ 9223372036854775807 ∧ HS W W.heap.size A n R m hp ∧ AllN hp.rt ∧ ∀ cl ∈ hp.cs, I64 cl.d ∧ AllN cl.r ∧ cl.r.length ≤ 9223372036854775807 := by
  obtain ⟨cs, rfl, hsz⟩ := okWide_struct hh hval
  rw [ch] at hsz
  obtain ⟨fuel, hf⟩ := h
  obtain ⟨ys, k, _, hys, _, hyl, hfd⟩ := DataW.trod_struct hh hf
  obtain ⟨l⟩ := cs
  match l, hsz with
  | [v0, v1], _ =>
    have g0 := hfd 0 h0 rfl
    have g1 := hfd 1 h1 rfl
    rw [s0, p0, ctc] at g0
    rw [s1, p1, ctn] at g1
    rw [List.getElem?_eq_getElem (by rw [hyl]; simp)] at g0 g1
    simp [Value.cells] at g0 g1
    have hpl : ∀ (i : Nat) (hi : i < ys.length), ∀ y ∈ (ys[i]).2, y.block < W.heap.size := fun i hi y hy => by
      apply hlt
      have := congrArg Prod.snd hys
      simp only [] at this
      rw [this, List.mem_flatMap]
      exact ⟨_, List.getElem_mem _, hy⟩
    obtain ⟨A, n, c, cs, e0, _, hn, hC, ha⟩ := cells_trod htc he ce t0 t1 t2 o0 o1 o2 htb hti htn cb ci ctn g0 (hpl 0 _)
    obtain ⟨R, m, dd, xs, e1, _, hm, hI, hx⟩ := nums_trod htn hti ci g1 (hpl 1 _)
    subst e0 e1
    exact ⟨A, R, n, c, m, dd, ⟨cs, xs⟩, rfl, hn, hm, ⟨hC, hI⟩, hx, ha⟩
end
end Go.Proofs.YthmddmddcdofaaaDoor

namespace Go.Proofs.YthmddmddcdofaaaDoor
open Go.ChangeShapes Go.WideShapes Go.ChangeAt Go.RowKit Go.Deep
set_option maxRecDepth 100000
theorem open_lawsHeap {H : Type} {enc : TypeId × Value → H} {W : World} {r : Reach} {base : Nat} {v : Value} {d : DataW H} {ps : List MemPlace} (hval : Value.okWide Tryd.prog W r base 60 v) (h : DataW.Trod enc Tryd.prog W 0 (fun _ => true) true 60 v d ps) (hlt : ∀ x ∈ ps, x.block < W.heap.size) :
    ∃ (A R : Option Addr) (n c m dd : Nat) (hp : Hp), v = .agg #[.slice A n c, .slice R m dd] ∧ n ≤ 9223372036854775807 ∧ m ≤ 9223372036854775807 ∧ HS W W.heap.size A n R m hp ∧ AllN hp.rt ∧ ∀ cl ∈ hp.cs, I64 cl.d ∧ AllN cl.r ∧ cl.r.length ≤ 9223372036854775807 :=
  open_heap (tc := 58) (tn := 24) (e := 161) (tb := 4) (ti := 3) Tryd.underlying60 (by kernel_rfl) rfl rfl rfl rfl (by kernel_rfl) (by kernel_rfl) Tryd.underlying58 Tryd.underlying24 Tryd.underlying161 (by kernel_rfl) rfl rfl rfl rfl rfl rfl Tryd.underlying4 Tryd.underlying3 (by kernel_rfl) (by kernel_rfl) hval h hlt
end Go.Proofs.YthmddmddcdofaaaDoor

namespace Go.Proofs.YthmddmddcdofaaaDoor
open Go.ChangeShapes Go.WideShapes Go.ChangeAt Go.RowKit Go.Deep
section
variable {H : Type} {enc : TypeId × Value → H} {P : Program} {W W' : World}
end
end Go.Proofs.YthmddmddcdofaaaDoor

namespace Go.Proofs.YthmddmddcdofaaaDoor
open Go.ChangeShapes Go.WideShapes Go.ChangeAt Go.RowKit Go.Deep
theorem var_ltU {P : Program} {W : World} {n : String} {g : Nat} {cs : Array Value} (hg : P.globalNamed n = some g) (h : W.var? P n = some cs) : g < W.heap.size := by
  unfold World.var? at h
  simp only [hg, Option.bind_some] at h
  split at h
  · next h2 => exact (Array.getElem?_eq_some_iff.1 h2).1
  · cases h
theorem gTz : Tryd.prog.globalNamed "math/bits.deBruijn64tab" = some 0 := by kernel_rfl
theorem tab_cast : ∀ i : Nat, i < 64 → ([0, 1, 56, 2, 57, 49, 28, 3, 61, 58, 42, 50, 38, 29, 17, 4, 62, 47, 59, 36, 45, 43, 51, 22, 53, 39, 33, 30, 24, 18, 12, 5, 63, 55, 48, 27, 60, 41, 37, 16, 46, 35, 44, 21, 52, 32, 23, 11, 54, 26, 40, 15, 34, 20, 31, 10, 25, 14, 19, 9, 13, 8, 7, 6] : List Int).getD i 0 = (Lib.deBruijn64tab.getD i 0 : Nat) := by decide +kernel
theorem tzT_of_laid {W : World} (h : laidMetH Tryd.prog [("math/bits.deBruijn64tab", Rows.laid_math_bits_deBruijn64tab)] W) : TzT W := by
  rw [MakeChecks.laidMetH_plain _ _ _ (by kernel_rfl)] at h
  have hT : Lib.TabIs Tryd.prog W "math/bits.deBruijn64tab" .u8 [0, 1, 56, 2, 57, 49, 28, 3, 61, 58, 42, 50, 38, 29, 17, 4, 62, 47, 59, 36, 45, 43, 51, 22, 53, 39, 33, 30, 24, 18, 12, 5, 63, 55, 48, 27, 60, 41, 37, 16, 46, 35, 44, 21, 52, 32, 23, 11, 54, 26, 40, 15, 34, 20, 31, 10, 25, 14, 19, 9, 13, 8, 7, 6] :=
    Lib.tabIs_of_head (k := .u8) (zs := [0, 1, 56, 2, 57, 49, 28, 3, 61, 58, 42, 50, 38, 29, 17, 4, 62, 47, 59, 36, 45, 43, 51, 22, 53, 39, 33, 30, 24, 18, 12, 5, 63, 55, 48, 27, 60, 41, 37, 16, 46, 35, 44, 21, 52, 32, 23, 11, 54, 26, 40, 15, 34, 20, 31, 10, 25, 14, 19, 9, 13, 8, 7, 6]) (rest := []) (n := 64) (t := 169) (e := 5) gTz (by kernel_rfl) Tryd.underlying169 Tryd.underlying5 (by kernel_rfl) (by kernel_rfl) h
  exact ⟨var_ltU gTz hT, fun i hi => by
    rw [← tab_cast i hi]
    exact hT.cell gTz i (by simpa using hi)⟩
/-- the door's own heap meets the condition -/
theorem door_tz (os : Os) (args : Array Value) : laidMetH Tryd.prog [("math/bits.deBruijn64tab", Rows.laid_math_bits_deBruijn64tab)] ((World.doorLaid Tryd.prog 14 os).forCall (fun _ _ => 0) ⟨#[], args, []⟩).memory :=
  laidMetH_of_parts3 (fuel := 8) (laidMet_of_run' 8 (by kernel_rfl) (by kernel_rfl)) (by kernel_rfl) (by kernel_rfl)
end Go.Proofs.YthmddmddcdofaaaDoor

