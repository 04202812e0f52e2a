/- What the model's l12Drain, l12Open and l12Any do: for every valid heap. No conditions. -/
import Derived.Test.YtmjejcfifkbkoaaQc
import Derived.Test.YtmjejcfifkbkoaaQf
import Derived.Test.YtmjejcfifkbkoaaQe
namespace Go.Proofs.Ytmjejcfifkbkoaa
open Go.RowKit
set_option maxRecDepth 100000

open Classical in
/-- how many of the flags that lie in block g are false -/
noncomputable def idleW (w : World) (g n : Nat) : Nat := (List.range n).countP fun k => decide (w.cell? ⟨g, k, none⟩ = some (.bool false))
open Classical in
theorem idleW_eq {w : World} {B g n c : Nat} {mk : List Bool} (h : OwnO w B (.slice (some ⟨g, 0, none⟩) n c) mk) : idleW w g n = mk.count false := by
  have hl : mk.length = n := h.cap.1.symm
  have hp : ∀ m, m ≤ n → ((List.range m).countP fun k => decide (w.cell? ⟨g, k, none⟩ = some (.bool false))) = (mk.take m).count false := by
    intro m
    induction m with
    | zero => intro _; simp
    | succ m ih =>
      intro hm
      obtain ⟨g', o', b, e1, _, hb, c1⟩ := h.reads.at_ (k := m) (by omega)
      injection e1 with e1
      injection e1 with e2 e3
      subst e2 e3
      rw [Nat.zero_add] at c1
      rw [List.range_succ, List.countP_append, ih (by omega), List.take_add_one, hb, Option.toList_some, List.count_append, List.countP_singleton, c1]
      cases b <;> simp
  rw [idleW, hp n (Nat.le_refl _), List.take_of_length_le (by omega)]
theorem OwnO.at_own {w : World} {B g n c k : Nat} {mk : List Bool} (h : OwnO w B (.slice (some ⟨g, 0, none⟩) n c) mk) (hk : k < n) : ∃ b, mk[k]? = some b ∧ w.cell? ⟨g, k, none⟩ = some (.bool b) := by
  obtain ⟨g', o', b, e1, _, hb, c1⟩ := h.reads.at_ hk
  injection e1 with e1
  injection e1 with e2 e3
  subst e2 e3
  rw [Nat.zero_add] at c1
  exact ⟨b, hb, c1⟩
namespace Hps
theorem push_old {pl : Nat} {mk : List Bool} {st : List Int} {m : Int} (h : m < 0 ∨ mk[m.toNat]? ≠ some false) : pushP pl (mk, st) m = (mk, st) := by
  rw [pushP, if_neg]
  rintro ⟨h0, h1⟩
  rcases h with h | h
  · omega
  · exact h h1
theorem push_new {pl : Nat} {mk : List Bool} {st : List Int} {k : Nat} (h : mk[k]? = some false) : pushP pl (mk, st) (k : Int) = (mk.set k true, if st.length < pl then st ++ [(k : Int)] else st) := by
  rw [pushP, if_pos ⟨by omega, by rw [Int.toNat_natCast]; exact h⟩, Int.toNat_natCast]
theorem pop_refs {cs : List Cl} {pl k : Nat} {mk : List Bool} {st : List Int} {c : Cl} (h : cs[k]? = some c) : popP cs pl mk st (k : Int) = c.r.foldl (pushP pl) (mk, st) := by
  rw [popP, refsAt, Int.toNat_natCast, h]
theorem fold_snoc (pl : Nat) (S : List Bool × List Int) (l : List Int) (x : Int) : (l ++ [x]).foldl (pushP pl) S = pushP pl (l.foldl (pushP pl) S) x := by rw [List.foldl_append]; rfl
/-- numbers of cells -/
def Nums (n : Nat) (st : List Int) : Prop := ∀ x ∈ st, ∃ k : Nat, x = k ∧ k < n
theorem Nums.snoc {n : Nat} {st : List Int} (h : Nums n st) {k : Nat} (hk : k < n) : Nums n (st ++ [(k : Int)]) := fun x hx => by
  rcases List.mem_append.1 hx with h1 | h1
  · exact h x h1
  · rw [List.mem_singleton] at h1
    exact ⟨k, h1, hk⟩
theorem fold_weight (pl : Nat) (l : List Int) (S : List Bool × List Int) : (l.foldl (pushP pl) S).1.count false + (l.foldl (pushP pl) S).2.length ≤ S.1.count false + S.2.length :=
  fold_keep (P := fun T => T.1.count false + T.2.length ≤ S.1.count false + S.2.length) l S (fun T m _ h => Nat.le_trans (push_weight pl T m) h) (Nat.le_refl _)
theorem Nums.pre {n : Nat} {st : List Int} {x : Int} (h : Nums n (st ++ [x])) : Nums n st := fun y hy => h y (by simp [hy])
end Hps

set_option maxHeartbeats 4000000 in
theorem l12Drain_any (B gm n c m d pl y : Nat) (A R : Option Addr) (h : Hp) (w0 w : World) (mk : List Bool) (hs : HS w0 B A n R m h) (hrf : ∀ cl ∈ h.cs, Hps.okRefs h.cs cl.r = true) (h3 : ∀ cl ∈ h.cs, cl.r.length ≤ 3) (hn : n ≤ 40) (hB : B ≤ w0.heap.size)
    (ho : OwnO w B (.slice (some ⟨gm, 0, none⟩) n n) mk) (hy : y < n) (hp : pl ≤ 1000) (bb : Below B w0 w) :
    Calls Try.prog 93 #[heapV A n c R m d, .int .i64 y, .int .i64 pl, .slice (some ⟨gm, 0, none⟩) n n] w fun e w' => e = .returned (.tuple #[]) ∧ OwnO w' B (.slice (some ⟨gm, 0, none⟩) n n) (Hps.drainL h.cs pl mk [(y : Int)]) ∧ Below B w w' := by
  have hlc := hs.cells.1
  have HRF := Lib.hid hrf
  have HC3 := Lib.hid h3
  have hws := bb.size
  have hBw : B ≤ w.heap.size := by omega
  have HD := Lib.hid (Hps.drain_spec h.cs pl mk [(y : Int)])
  obtain ⟨r0, hr0⟩ : ∃ r0, Hps.drainL h.cs pl mk [(y : Int)] = r0 := ⟨_, rfl⟩
  rw [hr0] at HD ⊢
  have b1 : Below B w (w.alloc (.cells #[.slice A n c, .slice R m d] 28)) := (Below.refl B w).alloc (by omega) _
  have q1 := (Rw.new w 28 #[.slice A n c, .slice R m d]).alloc (.cells #[.int .i64 y] 3)
  have b2 := b1.alloc (by have := b1.size; omega) (.cells #[.int .i64 y] 3)
  have o2 := (World.ownsRow.alloc (World.ownsRow.alloc ho (.cells #[.slice A n c, .slice R m d] 28)) (.cells #[.int .i64 y] 3) : OwnO _ _ _ _)
  have s2 : OwnI ((w.alloc (.cells #[.slice A n c, .slice R m d] 28)).alloc (.cells #[.int .i64 y] 3)) B (.slice (some ⟨w.heap.size + 1, 0, none⟩) 1 1) [(y : Int)] := by
    have := own_oneI (w.alloc (.cells #[.slice A n c, .slice R m d] 28)) (y : Int) B (by simp; omega)
    rwa [World.size_alloc] at this
  have hml : mk.count false ≤ n := by have := ho.cap.1; rw [this]; exact List.count_le_length
  clear hrf h3 hr0
  go_enter Try.func93, Try.ntmps93
  go_wp2_with fail
  generalize (w.alloc (.cells #[.slice A n c, .slice R m d] 28)).alloc (.cells #[.int .i64 y] 3) = w2 at b2 q1 o2 s2 ⊢
  generalize w.heap.size = q at q1 s2 hws ⊢
  go_loopw [8] (fun sv wr => ∃ (mk : List Bool) (st : List Int), OwnO wr B (.slice (some ⟨gm, 0, none⟩) n n) mk ∧ OwnI wr B sv st ∧ Rw wr q 28 #[.slice A n c, .slice R m d] ∧ Hid (Hps.Drain h.cs pl mk st r0) ∧ Hid (Hps.Nums n st) ∧ mk.count false + st.length ≤ n + 1 ∧ Below B w wr) (fun sv wr => idleW wr gm n + lenV sv)
  case atStart => exact ⟨mk, _, o2, s2, q1, HD, Lib.hid (Hps.Nums.snoc (st := []) (fun x hx => by simp at hx) hy), by simp; omega, b2⟩
  case round =>
    clear o2 s2 q1 HD b2 b1 ho hml
    obtain ⟨mk, st, O, S, Q, HD, HNU, hcw, b2⟩ := hrel
    obtain ⟨A5, c5, rfl, hA5⟩ := S.form
    by_cases hst : st = []
    · subst hst
      have HE := Lib.hid (HD.out.fin rfl)
      go_wp2_with fail
      exact bodyPost_end (results_none rfl _ _ _) rfl ⟨rfl, by rw [HE.out]; exact O, b2⟩
    · obtain ⟨st', x, rfl⟩ := Hps.snoc_of hst
      obtain ⟨k, rfl, hk⟩ := HNU.out x (by simp)
      have HNP := Lib.hid HNU.out.pre
      have HDN := Lib.hid (HD.out.next rfl)
      have HM0 := Lib.hid (idleW_eq O)
      have hlen : (st' ++ [(k : Int)]).length = st'.length + 1 := by simp
      rw [hlen] at hA5 hcw S ⊢
      obtain ⟨l, hl⟩ : ∃ l, st'.length = l := ⟨_, rfl⟩
      have HL := Lib.hid hl
      rw [hl] at hA5 hcw S ⊢
      obtain ⟨g5, rfl, hB5, hg5⟩ := hA5 (by omega)
      obtain ⟨g', o', z, e1, _, hz, c1⟩ := S.reads.at_ (k := l) (by omega)
      injection e1 with e1
      injection e1 with e2 e3
      subst e2 e3
      rw [Nat.zero_add] at c1
      rw [List.getElem?_append_right (by omega), hl, Nat.sub_self] at hz
      obtain rfl := Option.some.inj hz
      obtain ⟨g, oo, cl, A', q', cc, e1, hg, hcl, d1, d2, d3, hmc, hi⟩ := hs.cells.at_ (k := k) hk
      subst e1
      have HPR := Lib.hid (Hps.pop_refs (pl := pl) (mk := mk) (st := st') hcl)
      have hq3 : q' ≤ 3 := by have := HC3.out cl (List.mem_of_getElem? hcl); have := hi.1; omega
      have HCK := Lib.hid (HRF.out cl (List.mem_of_getElem? hcl))
      have HRL := Lib.hid hi.1
      have e1 := ((bb.trans b2).cell (p := ⟨g, oo + k * 3, none⟩) hg).trans d1
      have e2 := ((bb.trans b2).cell (p := ⟨g, oo + k * 3 + 1, none⟩) hg).trans d2
      have e3 := ((bb.trans b2).cell (p := ⟨g, oo + k * 3 + 2, none⟩) hg).trans d3
      have z0 : wr.cell? ⟨q, 0, none⟩ = some (.slice (some ⟨g, oo, none⟩) n c) := Q.cell 0
      have hw1 : IntKind.i64.wrap (l : Int) = l := IntWalk.i64_in _ (by omega)
      have hl1 : (l : Int) < (l : Int) + 1 := by omega
      have hk' : (k : Int) < n := by omega
      have hql := Q.lt
      have hgw : g < wr.heap.size := by have := b2.size; omega
      clear hz hcl hst hA5 hlen hl d1 d2 d3
      go_wp2_with fail
      go_region
      have b3 := (b2.alloc (by have := b2.size; omega) (.cells #[.bool cl.u, .int .i64 cl.d, .slice A' q' cc] 61)).drew
      have up := ((Below.refl wr.heap.size wr).alloc (Nat.le_refl _) (.cells #[.bool cl.u, .int .i64 cl.d, .slice A' q' cc] 61)).drew
      have O3 := O.below up (Nat.le_refl _)
      have S3 := S.below up (Nat.le_refl _)
      have Q3 := Q.keep up Q.lt
      have C3 := (Rw.new wr 61 #[.bool cl.u, .int .i64 cl.d, .slice A' q' cc]).keep (Below.refl (wr.heap.size + 1) _).drew (by omega)
      have hlc5 := S.cap.2
      have hlw : (l : Int) ≤ (l : Int) + 1 := by omega
      have hl5 : (l : Int) ≤ c5 := by omega
      have SC := OwnI.cut (n := l + 1) (k := l) S3 (by omega)
      have HST := Lib.hid (take_cut st' (k : Int))
      rw [HL.out] at HST
      rw [HST.out] at SC
      generalize (wr.alloc (.cells #[.bool cl.u, .int .i64 cl.d, .slice A' q' cc] 61)).drew = w3 at b3 O3 S3 Q3 C3 SC ⊢
      obtain ⟨cb, hcb⟩ : ∃ cb, wr.heap.size = cb := ⟨_, rfl⟩
      rw [hcb] at C3 ⊢
      clear up O S Q S3 e1 e2 e3 z0 c1 hql hgw hB5 hg5 b2 hcb
      go_wp2_with fail
      have HW := Lib.hid hcw
      clear hw1 hl1 hlc5 hlw hl5 hcw hk'
      go_loopw [8, 10] (fun sv i ww => ∃ (j : Nat) (mk2 : List Bool) (st2 : List Int), j ≤ q' ∧ i = .int .i64 j ∧ OwnO ww B (.slice (some ⟨gm, 0, none⟩) n n) mk2 ∧ OwnI ww B sv st2 ∧ Rw ww q 28 #[.slice (some ⟨g, oo, none⟩) n c, .slice R m d] ∧ Rw ww cb 61 #[.bool cl.u, .int .i64 cl.d, .slice A' q' cc] ∧ Hid ((cl.r.take j).foldl (Hps.pushP pl) (mk, st') = (mk2, st2)) ∧ Hid (Hps.Nums n st2) ∧ Below B w ww) (fun _ i _ => q' - (intOf i).toNat)
      case atStart => exact ⟨0, mk, st', Nat.zero_le _, rfl, O3, SC, Q3, C3, Lib.hid (by rw [List.take_zero]; rfl), HNP, b3⟩
      case round =>
        clear O3 SC Q3 C3 b3
        obtain ⟨j, mk2, st2, hj, rfl, O, S, Q, C, HF, HN2, b2⟩ := hrel
        have y2 : wr.cell? ⟨cb, 2, none⟩ = some (.slice A' q' cc) := C.cell 2
        have hlen : mk2.length = n := O.cap.1.symm
        have HFW := Lib.hid (show mk2.count false + st2.length ≤ mk.count false + l by
          have := Hps.fold_weight pl (cl.r.take j) (mk, st')
          rw [HF.out] at this
          simp only at this
          rwa [HL.out] at this)
        by_cases hlt : j < q'
        · obtain ⟨gr, or, x, e2, hgr, hx, d0⟩ := hi.at_ hlt
          subst e2
          have e0 := ((bb.trans b2).cell (p := ⟨gr, or + j, none⟩) hgr).trans d0
          have hlt' : (j : Int) < q' := by omega
          have HT := Lib.hid (take_snocI hx)
          have hok := Hps.okRefs_at HCK.out hx
          have HFS := Lib.hid (show (cl.r.take (j + 1)).foldl (Hps.pushP pl) (mk, st') = Hps.pushP pl (mk2, st2) x by rw [HT.out, Hps.fold_snoc, HF.out])
          by_cases hx0 : 0 ≤ x
          · obtain ⟨z, rfl, hz, _⟩ := Hps.okRef_nat hok hx0
            rw [hlc] at hz
            obtain ⟨b, hbz, c1⟩ := O.at_own hz
            have hz' : (z : Int) < n := by omega
            have hzn : ¬ (z : Int) < 0 := by omega
            clear hx hok
            cases b
            · have HP := Lib.hid (Hps.push_new (pl := pl) (st := st2) hbz)
              clear hbz
              have f1 : wr.frozen? ⟨gm, z, none⟩ = false := O.frozen hlen z
              have O4 := O.put' (j := z) hlen true
              have hp4 := put_any wr gm z (.bool true)
              have S4 : OwnI (wr.setCell ⟨gm, z, none⟩ (.bool true)) B _ st2 := S.far hp4 (rows_two S O (by decide))
              have Q4 := Q.far hp4 (row_type O Q (by decide))
              have C4 := C.far hp4 (row_type O C (by decide))
              have hgB := (World.ownsRow.lt O gm rfl).1
              have b4 := b2.setCell (p := ⟨gm, z, none⟩) hgB (.bool true)
              obtain ⟨A6, c6, rfl, -⟩ := S.form
              obtain ⟨l6, hl6⟩ : ∃ l6, st2.length = l6 := ⟨_, rfl⟩
              have HL6 := Lib.hid hl6
              rw [hl6] at S4 HP ⊢
              have HN3 := Lib.hid (HN2.out.snoc hz)
              by_cases hroom : l6 < pl
              · have hroom' : (l6 : Int) < pl := by omega
                rw [if_pos hroom] at HP
                rw [HP.out] at HFS
                have rr : IS ((wr.setCell ⟨gm, z, none⟩ (.bool true)).alloc (.cells #[.int .i64 z] 3)) ((wr.setCell ⟨gm, z, none⟩ (.bool true)).alloc (.cells #[.int .i64 z] 3)).heap.size (some ⟨wr.heap.size, 0, none⟩) 1 [(z : Int)] := by
                  have := (own_oneI (wr.setCell ⟨gm, z, none⟩ (.bool true)) (z : Int) 0 (Nat.zero_le _)).reads
                  simpa using this
                have hl7 : st2.length + 1 ≤ 1099511627776 := by omega
                have ow : OwnI ((wr.setCell ⟨gm, z, none⟩ (.bool true)).alloc (.cells #[.int .i64 z] 3)) B (.slice A6 l6 c6) st2 := World.ownsRow.alloc S4 _
                have bs := b2.size
                have hsz : B ≤ ((wr.setCell ⟨gm, z, none⟩ (.bool true)).alloc (.cells #[.int .i64 z] 3)).heap.size := by simp; omega
                have O5 := Lib.hid (World.ownsRow.alloc O4 (.cells #[.int .i64 z] 3))
                have Q5 := Lib.hid (Q4.alloc (.cells #[.int .i64 z] 3))
                have C5 := Lib.hid (C4.alloc (.cells #[.int .i64 z] 3))
                have b5 := Lib.hid (b4.alloc (by simp; omega) (.cells #[.int .i64 z] 3))
                clear hl6 hroom hx0 HP O4 Q4 C4 b4 O Q C hp4
                go_wp2_with (at_builtin; refine wpList_appendI rfl (.tmp 59) (.tmp 61) rfl B _ st2 rfl ow (some ⟨wr.heap.size, 0, none⟩) 1 1 _ [(z : Int)] rfl rr hl7 hsz ?_; intro v5 w5 o5 g5 s5)
                go_roundw
                case rel => exact ⟨j + 1, _, _, by omega, by go_num, World.ownsRow.kept O5.out g5 (rows_two O5.out ow (by decide)), o5, Q5.out.far g5 (row_type ow Q5.out (by decide)), C5.out.far g5 (row_type ow C5.out (by decide)), HFS, HN3, b5.out.grown g5 hsz (fun k hk => (World.ownsRow.lt ow k hk).1)⟩
                case measure => simp [intOf]; omega
              · have hroom' : ¬ (l6 : Int) < pl := by omega
                rw [if_neg hroom] at HP
                rw [HP.out] at HFS
                clear hl6 hroom hx0 HP O Q C hp4 HN3
                go_wp2_with fail
                go_roundw
                case rel => exact ⟨j + 1, _, _, by omega, by go_num, O4, S4, Q4, C4, HFS, HN2, b4⟩
                case measure => simp [intOf]; omega
            · have HP := Lib.hid (Hps.push_old (pl := pl) (st := st2) (m := (z : Int)) (.inr (by rw [Int.toNat_natCast, hbz]; simp)))
              rw [HP.out] at HFS
              clear hbz
              go_wp2_with fail
              go_roundw
              case rel => exact ⟨j + 1, _, _, by omega, by go_num, O, S, Q, C, HFS, HN2, b2⟩
              case measure => simp [intOf]; omega
          · have hxn : x < 0 := by omega
            have HP := Lib.hid (Hps.push_old (pl := pl) (mk := mk2) (st := st2) (m := x) (.inl hxn))
            rw [HP.out] at HFS
            clear hx hok hx0
            go_wp2_with fail
            go_roundw
            case rel => exact ⟨j + 1, _, _, by omega, by go_num, O, S, Q, C, HFS, HN2, b2⟩
            case measure => simp [intOf]; omega
        · obtain rfl : j = q' := by omega
          rw [List.take_of_length_le (by rw [HRL.out]; omega)] at HF
          rw [HPR.out, HF.out] at HDN
          have HMS := Lib.hid (idleW_eq O)
          have HLS := Lib.hid (lenV_eq S)
          go_wp2_with fail
          go_roundw
          case rel => exact ⟨mk2, st2, O, S, Q, HDN, HN2, by have := HFW.out; have := HW.out; omega, b2⟩
          case measure => rw [HMS.out, HLS.out, HM0.out]; have := HFW.out; simp [lenV]; omega
set_option maxHeartbeats 2000000 in
theorem l12Open_any (B gm n c m d k : Nat) (A R : Option Addr) (h : Hp) (w0 w : World) (mk : List Bool) (hs : HS w0 B A n R m h) (hrf : ∀ cl ∈ h.cs, Hps.okRefs h.cs cl.r = true) (h3 : ∀ cl ∈ h.cs, cl.r.length ≤ 3) (_hn : n ≤ 40) (hB : B ≤ w0.heap.size)
    (ho : OwnO w B (.slice (some ⟨gm, 0, none⟩) n n) mk) (hk : k < n) (bb : Below B w0 w) :
    Calls Try.prog 95 #[heapV A n c R m d, .slice (some ⟨gm, 0, none⟩) n n, .int .i64 k] w fun e w' => e = .returned (.bool (Hps.openAt h.cs mk k)) ∧ Below w.heap.size w w' := by
  have hlc := hs.cells.1
  have hws := bb.size
  obtain ⟨g, oo, cl, A', q', cc, e1, hg, hcl, d1, d2, d3, hmc, hi⟩ := hs.cells.at_ (k := k) hk
  subst e1
  have HRA := Lib.hid (show Hps.refsAt h.cs (k : Int) = cl.r by rw [Hps.refsAt, Int.toNat_natCast, hcl])
  have hq3 : q' ≤ 3 := by have := h3 cl (List.mem_of_getElem? hcl); have := hi.1; omega
  have HCK := Lib.hid (hrf cl (List.mem_of_getElem? hcl))
  have HRL := Lib.hid hi.1
  have e3 := (bb.cell (p := ⟨g, oo + k * 3 + 2, none⟩) hg).trans d3
  obtain ⟨b, hbk, c1⟩ := ho.at_own hk
  have hk' : (k : Int) < n := by omega
  have b1 := (Below.refl w.heap.size w).alloc (Nat.le_refl _) (.cells #[.slice (some ⟨g, oo, none⟩) n c, .slice R m d] 28)
  have q1 := Rw.new w 28 #[.slice (some ⟨g, oo, none⟩) n c, .slice R m d]
  have hgl := (World.ownsRow.lt ho gm rfl).2
  have hi1 := hi.below bb
  have HIT : Hid (∀ (j : Nat) (x : Int), cl.r[j]? = some x → 0 ≤ x → ∃ z : Nat, x = z ∧ z < n) := Lib.hid fun j x hx h0 => by
    obtain ⟨z, e, hz, _⟩ := Hps.okRef_nat (Hps.okRefs_at HCK.out hx) h0
    exact ⟨z, e, by rw [← hlc]; exact hz⟩
  clear hrf h3 hcl d1 d2 d3 hi
  have HBK := Lib.hid hbk
  clear hbk
  go_enter Try.func95, Try.ntmps95
  go_upto_region 1 with fail
  generalize w.alloc (.cells #[.slice (some ⟨g, oo, none⟩) n c, .slice R m d] 28) = w1 at b1 q1 ⊢
  obtain ⟨q, hq⟩ : ∃ q, w.heap.size = q := ⟨_, rfl⟩
  have HQ := Lib.hid hq
  rw [hq] at b1 q1 hgl ⊢
  have y0 : w1.cell? ⟨q, 0, none⟩ = some (.slice (some ⟨g, oo, none⟩) n c) := q1.cell 0
  have y3 : w1.cell? ⟨g, oo + k * 3 + 2, none⟩ = some (.slice A' q' cc) := (b1.cell (p := ⟨g, oo + k * 3 + 2, none⟩) (by show g < q; omega)).trans e3
  have y4 : w1.cell? ⟨gm, k, none⟩ = some (.bool b) := (b1.cell (p := ⟨gm, k, none⟩) (by show gm < q; omega)).trans c1
  have hi2 := hi1.below (b1.mono (by omega))
  cases b
  · have HE := Lib.hid (show Hps.openAt h.cs mk k = false by rw [Hps.openAt, HBK.out]; rfl)
    clear c1
    go_wp2_with fail
    go_loopw [7] (fun i wr => i = .int .i64 0 ∧ wr = w1) (fun _ _ => 0)
    case atStart => exact ⟨rfl, rfl⟩
    case round =>
      obtain ⟨rfl, rfl⟩ := hrel
      by_cases h0 : (0 : Int) < q'
      · go_wp2_with fail
        go_ret
        exact ⟨by rw [HE.out]; rfl, by first | exact b1 | (rw [HQ.out]; exact b1)⟩
      · have h0' : decide ((0 : Int) < q') = false := decide_eq_false h0
        go_wp2_with fail
        go_ret
        exact ⟨by rw [HE.out]; rfl, by first | exact b1 | (rw [HQ.out]; exact b1)⟩
  · clear c1
    go_wp2_with fail
    go_loopw [7] (fun i wr => ∃ j : Nat, j ≤ q' ∧ i = .int .i64 j ∧ Hid (∀ (p : Nat) (x : Int), p < j → cl.r[p]? = some x → ¬ (0 ≤ x ∧ mk[x.toNat]? = some false)) ∧ wr = w1) (fun i _ => q' - (intOf i).toNat)
    case atStart => exact ⟨0, Nat.zero_le _, rfl, Lib.hid (fun p x hp => by omega), rfl⟩
    case round =>
      obtain ⟨j, hj, rfl, HP, rfl⟩ := hrel
      by_cases hlt : j < q'
      · obtain ⟨gr, or, x, e2, hgr, hx, d0⟩ := hi2.at_ hlt
        subst e2
        have hlt' : (j : Int) < q' := by omega
        have HN : ¬ (0 ≤ x ∧ mk[x.toNat]? = some false) → Hid (∀ (p : Nat) (y : Int), p < j + 1 → cl.r[p]? = some y → ¬ (0 ≤ y ∧ mk[y.toNat]? = some false)) := fun hne => Lib.hid fun p y hp hy => by
          rcases Nat.lt_or_ge p j with h1 | h1
          · exact HP.out p y h1 hy
          · obtain rfl : p = j := by omega
            rw [hx] at hy
            rwa [← Option.some.inj hy]
        by_cases hx0 : 0 ≤ x
        · obtain ⟨z, rfl, hz⟩ := HIT.out j x hx hx0
          obtain ⟨b, hbz, c2⟩ := ho.at_own hz
          have y5 : wr.cell? ⟨gm, z, none⟩ = some (.bool b) := (b1.cell (p := ⟨gm, z, none⟩) (by show gm < q; omega)).trans c2
          have hz' : (z : Int) < n := by omega
          cases b
          · have HE := Lib.hid (show Hps.openAt h.cs mk k = true from Hps.openAt_iff.2 ⟨HBK.out, (z : Int), by rw [HRA.out]; exact List.mem_of_getElem? hx, by omega, by rw [Int.toNat_natCast]; exact hbz⟩)
            clear HN hx hbz
            go_wp2_with fail
            go_ret
            exact ⟨by rw [HE.out]; rfl, by first | exact b1 | (rw [HQ.out]; exact b1)⟩
          · have HN2 := HN (fun e => by rw [Int.toNat_natCast, hbz] at e; cases e.2)
            clear HN hx hbz
            go_wp2_with fail
            go_roundw
            case rel => exact ⟨j + 1, by omega, by go_num, HN2, trivial⟩
            case measure => simp [intOf]; omega
        · have hx0' : decide (x ≥ 0) = false := decide_eq_false hx0
          have HN2 := HN (fun e => hx0 e.1)
          clear HN hx
          go_wp2_with fail
          go_roundw
          case rel => exact ⟨j + 1, by omega, by go_num, HN2, trivial⟩
          case measure => simp [intOf]; omega
      · obtain rfl : j = q' := by omega
        have hdj : decide ((j : Int) < j) = false := decide_eq_false (by omega)
        have HE := Lib.hid (show Hps.openAt h.cs mk k = false by
          cases e : Hps.openAt h.cs mk k
          · rfl
          · obtain ⟨_, x, hx, h0, h1⟩ := Hps.openAt_iff.1 e
            rw [HRA.out] at hx
            obtain ⟨p, hp⟩ := List.mem_iff_getElem?.1 hx
            exact absurd ⟨h0, h1⟩ (HP.out p x (by have := (List.getElem?_eq_some_iff.1 hp).1; have := HRL.out; omega) hp))
        go_wp2_with fail
        go_ret
        exact ⟨by rw [HE.out]; rfl, by first | exact b1 | (rw [HQ.out]; exact b1)⟩

set_option maxHeartbeats 2000000 in
theorem l12Any_any (B gm n c m d : Nat) (A R : Option Addr) (h : Hp) (w0 w : World) (mk : List Bool) (hs : HS w0 B A n R m h) (hrf : ∀ cl ∈ h.cs, Hps.okRefs h.cs cl.r = true) (h3 : ∀ cl ∈ h.cs, cl.r.length ≤ 3) (hn : n ≤ 40) (hB : B ≤ w0.heap.size)
    (ho : OwnO w B (.slice (some ⟨gm, 0, none⟩) n n) mk) (bb : Below B w0 w) :
    Calls Try.prog 94 #[heapV A n c R m d, .slice (some ⟨gm, 0, none⟩) n n] w fun e w' => e = .returned (.bool (Hps.anyOpen h.cs mk)) ∧ Below w.heap.size w w' := by
  have HRF := Lib.hid hrf
  have HC3 := Lib.hid h3
  have hlen : mk.length = n := ho.cap.1.symm
  have b1 := (Below.refl w.heap.size w).alloc (Nat.le_refl _) (.cells #[.slice A n c, .slice R m d] 28)
  have q1 := Rw.new w 28 #[.slice A n c, .slice R m d]
  have hws := bb.size
  clear hrf h3
  go_enter Try.func94, Try.ntmps94
  go_upto_region 1 with fail
  generalize w.alloc (.cells #[.slice A n c, .slice R m d] 28) = w1 at b1 q1 ⊢
  obtain ⟨q, hq⟩ : ∃ q, w.heap.size = q := ⟨_, rfl⟩
  have HQ := Lib.hid hq
  rw [hq] at b1 q1 hws ⊢
  go_wp2_with fail
  go_loopw [5] (fun i wr => ∃ j : Nat, j ≤ n ∧ i = .int .i64 j ∧ Hid (∀ p, p < j → Hps.openAt h.cs mk p = false) ∧ Rw wr q 28 #[.slice A n c, .slice R m d] ∧ Below q w wr) (fun i _ => n - (intOf i).toNat)
  case atStart => exact ⟨0, Nat.zero_le _, rfl, Lib.hid (fun p hp => by omega), q1, b1⟩
  case round =>
    clear q1 b1
    obtain ⟨j, hj, rfl, HP, Q, b2⟩ := hrel
    have y0 : wr.cell? ⟨q, 0, none⟩ = some (.slice A n c) := Q.cell 0
    have y1 : wr.cell? ⟨q, 1, none⟩ = some (.slice R m d) := Q.cell 1
    by_cases hlt : j < n
    · have hlt' : (j : Int) < n := by omega
      have hj40 : j < 40 := by omega
      have b0 := bb.trans (b2.mono (by omega))
      have HO := Lib.hid (l12Open_any B gm n c m d j A R h w0 wr mk hs HRF.out HC3.out hn hB (ho.below b2 (by have := HQ.out; omega)) hlt b0)
      clear b0
      go_wp2_with fail
      refine HO.out.mono ?_
      rintro e w3 ⟨rfl, b3⟩
      have b4 := b2.trans (b3.mono (by have := b2.size; have := HQ.out; omega))
      have Q4 := Q.keep b3 Q.lt
      cases ho' : Hps.openAt h.cs mk j
      · have HN : Hid (∀ p, p < j + 1 → Hps.openAt h.cs mk p = false) := Lib.hid fun p hp => by
          rcases Nat.lt_or_ge p j with h1 | h1
          · exact HP.out p h1
          · obtain rfl : p = j := by omega
            exact ho'
        clear ho' HO
        go_wp2_with fail
        go_roundw
        case rel => exact ⟨j + 1, by omega, by go_num, HN, Q4, b4⟩
        case measure => simp [intOf]; omega
      · have HE := Lib.hid (show Hps.anyOpen h.cs mk = true from Hps.anyOpen_iff.2 ⟨j, by omega, ho'⟩)
        clear ho' HO
        go_wp2_with fail
        go_ret
        exact ⟨by rw [HE.out]; rfl, by first | exact b4 | (rw [HQ.out]; exact b4)⟩
    · obtain rfl : j = n := by omega
      have HE := Lib.hid (show Hps.anyOpen h.cs mk = false by
        cases e : Hps.anyOpen h.cs mk
        · rfl
        · obtain ⟨k, hk, h1⟩ := Hps.anyOpen_iff.1 e
          rw [HP.out k (by omega)] at h1
          cases h1)
      go_wp2_with fail
      go_ret
      exact ⟨by rw [HE.out]; rfl, by first | exact b2 | (rw [HQ.out]; exact b2)⟩
end Go.Proofs.Ytmjejcfifkbkoaa
