/- What the program's IndexFunc and ContainsFunc over a marker answer, and MarkDepth: for every heap. No conditions. -/
import Derived.Test.YtmjejcfifkbkoaaQe
import Derived.BigQuiet
namespace Go.Proofs.Ytmjejcfifkbkoaa
open Go.RowKit
set_option maxRecDepth 100000

namespace Hps
/-- a root or a reference leads to a cell that is not in the set -/
def isU (V : Nat) (x : Int) : Bool := x != -1 && !hasB V x
/-- the first such reference -/
def idxU (V : Nat) (rs : List Int) : Int := match rs.findIdx? (isU V) with
  | some k => (k : Int)
  | none => -1
theorem idxU_at {V : Nat} {rs : List Int} {k : Nat} {x : Int} (hp : ∀ (j : Nat) (y : Int), j < k → rs[j]? = some y → isU V y = false) (hx : rs[k]? = some x) (h : isU V x = true) : idxU V rs = (k : Int) := by
  have : rs.findIdx? (isU V) = some k := by
    rw [List.findIdx?_eq_some_iff_getElem]
    obtain ⟨hk, he⟩ := List.getElem?_eq_some_iff.1 hx
    refine ⟨hk, by rw [he]; exact h, fun j hj => ?_⟩
    have := hp j rs[j] hj (List.getElem?_eq_getElem (by omega))
    simp [this]
  rw [idxU, this]
theorem idxU_none {V : Nat} {rs : List Int} (hp : ∀ (j : Nat) (y : Int), rs[j]? = some y → isU V y = false) : idxU V rs = -1 := by
  have : rs.findIdx? (isU V) = none := by
    rw [List.findIdx?_eq_none_iff]
    intro x hx
    obtain ⟨j, hj⟩ := List.mem_iff_getElem?.1 hx
    exact hp j x hj
  rw [idxU, this]
theorem idxU_cases (V : Nat) (rs : List Int) : (idxU V rs = -1 ∧ ∀ x ∈ rs, isU V x = false) ∨ ∃ (a : List Int) (x : Int) (b : List Int), rs = a ++ x :: b ∧ (∀ y ∈ a, isU V y = false) ∧ isU V x = true ∧ idxU V rs = (a.length : Int) := by
  cases h : rs.findIdx? (isU V) with
  | none =>
    left
    rw [List.findIdx?_eq_none_iff] at h
    exact ⟨by rw [idxU, List.findIdx?_eq_none_iff.2 h], h⟩
  | some k =>
    right
    have h0 := h
    rw [List.findIdx?_eq_some_iff_getElem] at h
    obtain ⟨hk, hx, hp⟩ := h
    refine ⟨rs.take k, rs[k], rs.drop (k + 1), by rw [List.getElem_cons_drop hk, List.take_append_drop], fun y hy => ?_, hx, by rw [idxU, h0, List.length_take, Nat.min_eq_left (by omega)]⟩
    obtain ⟨j, hj⟩ := List.mem_iff_getElem?.1 hy
    have hjk : j < k := by have := (List.getElem?_eq_some_iff.1 hj).1; simp at this; omega
    rw [List.getElem?_take, if_pos hjk] at hj
    obtain ⟨hj1, hj2⟩ := List.getElem?_eq_some_iff.1 hj
    have := hp j hjk
    rw [hj2] at this
    simpa using this
end Hps

set_option maxHeartbeats 1000000 in
theorem indexFunc_any (B b V pl : Nat) (vc sv : Value) (st : List Int) (F : Option Addr) (q e : Nat) (rs : List Int) (w : World) (W : MkSt w B b vc V pl sv st) (hV : V < 18446744073709551616) (hf : IS w w.heap.size F q rs) (hq : q ≤ 1000) :
    Calls Try.prog 130 #[.slice F q e, .func (.func 86) #[.pointer (some ⟨b, 0, none⟩)] #[]] w fun e w' => e = .returned (.int .i64 (Hps.idxU V rs)) ∧ w = w' := by
  have hl := hf.1
  go_enter Try.func130, Try.ntmps130
  go_wp2_with fail
  go_loopw [8] (fun i wr => ∃ k : Nat, k ≤ q ∧ i = .int .i64 k ∧ Hid (∀ (j : Nat) (y : Int), j < k → rs[j]? = some y → Hps.isU V y = false) ∧ wr = w) (fun i _ => q - (intOf i).toNat)
  case atStart => exact ⟨0, Nat.zero_le _, rfl, Lib.hid (fun j y hj => by omega), rfl⟩
  case round =>
    obtain ⟨k, hk, rfl, HP, rfl⟩ := hrel
    by_cases hlt : k < q
    · obtain ⟨g, o, x, rfl, hg, hx, c1⟩ := hf.at_ (k := k) hlt
      have hlt' : (k : Int) < q := by omega
      have HU := Lib.hid (isUnmarked_any B b V pl vc sv st x wr W hV)
      have HX := Lib.hid hx
      clear hx
      go_wp2_with fail
      refine HU.out.mono ?_
      obtain ⟨u, hu⟩ : ∃ u, Hps.isU V x = u := ⟨_, rfl⟩
      rw [show (x != -1 && !Hps.hasB V x) = u from hu]
      rintro e w1 ⟨rfl, rfl⟩
      cases u
      · have HN : Hid (∀ (j : Nat) (y : Int), j < k + 1 → rs[j]? = some y → Hps.isU V y = false) := Lib.hid fun j y hj hy => by
          rcases Nat.lt_or_ge j k with h1 | h1
          · exact HP.out j y h1 hy
          · obtain rfl : j = k := by omega
            rw [HX.out] at hy
            rwa [← Option.some.inj hy]
        clear hu HU
        go_wp2_with fail
        go_roundw
        case rel => exact ⟨k + 1, by omega, by go_num, HN, trivial⟩
        case measure => simp [intOf]; omega
      · have HE := Lib.hid (Hps.idxU_at HP.out HX.out hu)
        clear hu HU
        go_wp2_with fail
        go_ret
        exact ⟨by rw [HE.out]; rfl, rfl⟩
    · obtain rfl : k = q := by omega
      have HE := Lib.hid (Hps.idxU_none (V := V) (rs := rs) fun j y hj => HP.out j y (by have := (List.getElem?_eq_some_iff.1 hj).1; omega) hj)
      go_wp2_with fail
      go_ret
      exact ⟨by rw [HE.out]; rfl, rfl⟩
theorem containsFunc_any (B b V pl : Nat) (vc sv : Value) (st : List Int) (F : Option Addr) (q e : Nat) (rs : List Int) (w : World) (W : MkSt w B b vc V pl sv st) (hV : V < 18446744073709551616) (hf : IS w w.heap.size F q rs) (hq : q ≤ 1000) :
    Calls Try.prog 156 #[.slice F q e, .func (.func 86) #[.pointer (some ⟨b, 0, none⟩)] #[]] w fun e w' => e = .returned (.bool (decide (0 ≤ Hps.idxU V rs))) ∧ w = w' := by
  have HI := Lib.hid (indexFunc_any B b V pl vc sv st F q e rs w W hV hf hq)
  go_enter Try.func156, Try.ntmps156
  go_wp2_with fail
  refine HI.out.mono ?_
  rintro e w1 ⟨rfl, rfl⟩
  go_wp2_with fail
  go_ret
  exact ⟨rfl, rfl⟩

/-- how many cells wait on the stack that lies in the box b -/
def stackW (w : World) (b : Nat) : Nat := match w.cell? ⟨b, 3, none⟩ with
  | some v => lenV v
  | none => 0
theorem stackW_eq {w : World} {B b V pl : Nat} {vc sv : Value} {st : List Int} (W : MkSt w B b vc V pl sv st) : stackW w b = st.length := by
  have x3 : w.cell? ⟨b, 3, none⟩ = some sv := W.box.cell 3
  rw [stackW, x3]
  exact lenV_eq W.s
theorem top_quiet (B b V pl : Nat) (vc sv : Value) (st : List Int) (x : Int) (w : World) (k : Nat) (W : MkSt w B b vc V pl sv (st ++ [x])) (hl : st.length ≤ 1000) :
    Calls Try.prog 129 #[.pointer (some ⟨b, 2, none⟩)] (w.drewN k) fun e w' => e = .returned (.int .i64 x) ∧ ∃ m, w' = w.drewN m :=
  Calls.quiet_of (top_any B b V pl vc sv st x (w.drewN k) (W.up (below_drewN (Below.refl w.heap.size w) k)) hl)

/-- a deep walk from a cell that was not met -/
def MetDeep (w0 w : World) (B b n : Nat) (vc sv0 : Value) (cs : List Cl) (y : Nat) (l0 : List Int) (e : Ending) (w' : World) : Prop :=
  ∃ (rv sv : Value) (V : Nat) (q : List Int), e = .returned rv ∧ OwnI w' w.heap.size rv q ∧ OnlyS w w' b sv0 sv ∧ MkSt w' B b vc V n sv [] ∧ Hps.WordOf V (l0 ++ q) ∧ Hps.Dfs cs [(y : Int)] l0 (l0 ++ q) ∧ (l0 ++ q).Nodup ∧ Hps.InB cs (l0 ++ q) ∧ Below B w0 w'

set_option maxHeartbeats 4000000 in
theorem metDeep_any (w0 : World) (B b n c y V : Nat) (A : Option Addr) (sv : Value) (cs : List Cl) (l0 : List Int) (w : World) (hcs : CS w0 B A n cs) (hrf : ∀ cl ∈ cs, Hps.okRefs cs cl.r = true) (h3 : ∀ cl ∈ cs, cl.r.length ≤ 3) (hn : n ≤ 40) (hB : B ≤ w0.heap.size)
    (W : MkSt w B b (.slice A n c) V n sv []) (hV : Hps.WordOf V l0) (hy : Hps.okRef cs (y : Int) = true) (hyl : (y : Int) ∉ l0) (hd : l0.Nodup) (hi0 : Hps.InB cs l0) (bb : Below B w0 w) :
    Calls Try.prog 87 #[.pointer (some ⟨b, 0, none⟩), .int .i64 y] w (MetDeep w0 w B b n (.slice A n c) sv cs y l0) := by
  have hlc := hcs.1
  obtain ⟨y', e, hyn, _⟩ := Hps.okRef_nat hy (by omega)
  obtain rfl : y = y' := by omega
  rw [hlc] at hyn
  have HD := Lib.hid (Hps.Deep.start hd hi0 hy (by omega) hyl)
  have hlen0 := HD.out.len
  rw [hlc, List.length_append, List.length_singleton] at hlen0
  have HW2 := Lib.hid (hV.snoc (k := y) (by omega))
  have HMK := Lib.hid (mark_any B b V n y (.slice A n c) sv [] w W hV.lt (by omega) (by omega) (by simp) (by have := bb.size; omega))
  have HRF := Lib.hid hrf
  have HC3 := Lib.hid h3
  have hn0 : 0 < n := by omega
  have HSZ := Lib.hid bb.size
  obtain ⟨sv0, hsv0⟩ : ∃ sv0, sv = sv0 := ⟨_, rfl⟩
  rw [hsv0] at W HMK ⊢
  clear hsv0 hrf h3 hV hd hi0 hy hyl
  go_enter Try.func87, Try.ntmps87
  go_wp2_with fail
  refine HMK.out.mono ?_
  rintro e w1 ⟨rfl, sv1, W1, b1, Y1⟩
  rw [show putS n [] (y : Int) = [(y : Int)] by rw [putS, if_pos (by simpa using hn0)]; rfl] at W1
  have bb1 := bb.trans b1
  clear W HMK b1 bb
  have W2 := W1.alloc (.cells #[.int .i64 y] 3)
  have b2 := bb1.alloc (by have := bb1.size; omega) (.cells #[.int .i64 y] 3)
  have o2 := own_oneI w1 (y : Int) w.heap.size Y1.size
  have Y2 := Y1.trans (OnlyS.below (b := b) (sv := sv1) ((Below.refl w1.heap.size w1).alloc (Nat.le_refl _) (.cells #[.int .i64 y] 3)))
  have n2 : (Value.slice (some ⟨w1.heap.size, 0, none⟩) 1 1).ownBlock = none ∨ (Value.slice (some ⟨w1.heap.size, 0, none⟩) 1 1).ownBlock ≠ sv1.ownBlock := by
    right
    intro e
    have := (World.ownsRow.lt W1.s w1.heap.size e.symm).2
    omega
  clear W1 bb1
  go_wp2_with fail
  clear Y1
  generalize w1.alloc (.cells #[.int .i64 y] 3) = w2 at W2 b2 o2 Y2 ⊢
  go_loopw [5] (fun lv wr => ∃ (V : Nat) (sv : Value) (st q : List Int), MkSt wr B b (.slice A n c) V n sv st ∧ Hid (Hps.WordOf V (l0 ++ q)) ∧ OwnI wr w.heap.size lv q ∧ OnlyS w wr b sv0 sv ∧ (lv.ownBlock = none ∨ lv.ownBlock ≠ sv.ownBlock) ∧ Hid (Hps.Deep cs [(y : Int)] l0 st (l0 ++ q)) ∧ Below B w0 wr) (fun lv wr => 2 * (n - lenV lv) + stackW wr b)
  case atStart => exact ⟨_, sv1, _, [(y : Int)], W2, HW2, o2, Y2, n2, HD, b2⟩
  case round =>
    clear W2 o2 n2 HD HW2 b2 Y2
    obtain ⟨V, sv, st, q, W, HV, O, Y, N, HD, bb⟩ := hrel
    have HE := Lib.hid (isEmpty_any B b V n _ sv st wr W)
    have hql : (l0 ++ q).length ≤ n := by rw [← hlc]; exact HD.out.len
    have hsl : st.length ≤ n := by rw [← hlc]; exact HD.out.st_len
    by_cases hst : st = []
    · subst hst
      have HF := Lib.hid HD.out.fin
      have HND := Lib.hid HD.out.nodup
      have HIN := Lib.hid HD.out.inb
      clear HD hql hsl
      go_wp2_with fail
      refine HE.out.mono ?_
      rintro e w3 ⟨rfl, rfl⟩
      go_wp2_with fail
      go_ret
      exact ⟨_, sv, V, q, rfl, O, Y, W, HV.out, HF.out, HND.out, HIN.out, bb⟩
    · obtain ⟨st', x, rfl⟩ := Hps.snoc_of hst
      obtain ⟨k, rfl, hk⟩ := HD.out.st_inb (n := x) (by simp)
      rw [hlc] at hk
      rw [List.length_append, List.length_singleton] at hsl
      have hne : (st' ++ [(k : Int)]).isEmpty = false := by simp
      have HNE := Lib.hid hne
      have HSW := Lib.hid (stackW_eq W)
      have HLV := Lib.hid (lenV_eq O)
      obtain ⟨g, oo, cl, A', q', cc, e1, hg, hcl, d1, d2, d3, hmc, hi⟩ := hcs.at_ (k := k) hk
      subst e1
      have HRA := Lib.hid (show Hps.refsAt cs (k : Int) = cl.r by rw [Hps.refsAt, Int.toNat_natCast, hcl])
      have hq3 : q' ≤ 3 := by have := HC3.out cl (List.mem_of_getElem? hcl); have := hi.1; omega
      have HCK := Lib.hid (HRF.out cl (List.mem_of_getElem? hcl))
      have hk' : (k : Int) < n := by omega
      have x0 : wr.cell? ⟨b, 0, none⟩ = some (.slice (some ⟨g, oo, none⟩) n c) := W.box.cell 0
      have e3 := (bb.cell (p := ⟨g, oo + k * 3 + 2, none⟩) hg).trans d3
      have HTQ := Lib.hid (fun j => top_quiet B b V n _ sv st' (k : Int) wr j W (by omega))
      have HIX := Lib.hid hi
      clear hst hne hcl d1 d2 d3 hi
      go_wp2_with fail
      refine HE.out.mono ?_
      rw [HNE.out]
      rintro e w3 ⟨rfl, rfl⟩
      go_wp2_with fail
      go_big_quiet ((go_at_call 129; exact HTQ.out _))
      have W4 := W.up (below_drewN (Below.refl wr.heap.size wr) nq)
      have b4 := below_drewN bb nq
      have O4 : OwnI (wr.drewN nq) w.heap.size u5 q := O.below (below_drewN (Below.refl wr.heap.size wr) nq) (Nat.le_refl _)
      have Y4 := Y.trans (OnlyS.below (b := b) (sv := sv) (below_drewN (Below.refl wr.heap.size wr) nq))
      clear x0 e3 HTQ HE HNE W O bb Y
      generalize wr.drewN nq = w4 at W4 b4 O4 Y4 ⊢
      have hz4 := b4.size
      have hf4 := (HIX.out.below b4).more (B' := w4.heap.size) (by omega)
      have HI := Lib.hid (indexFunc_any B b V n _ sv _ A' q' cc cl.r w4 W4 HV.out.lt hf4 (by omega))
      go_wp2_with fail
      refine HI.out.mono ?_
      rintro e w5 ⟨rfl, rfl⟩
      rcases Hps.idxU_cases V cl.r with ⟨hix, hno⟩ | ⟨a, x, t, hcr, hno, hyes, hix⟩
      · rw [hix]
        have HDN := Lib.hid (HD.out.pop fun m hm => by
          rw [HRA.out] at hm
          have h1 := hno m hm
          rcases Hps.okRef_iff.1 (Hps.okRefs_iff.1 HCK.out m hm) with h2 | ⟨h2, _⟩
          · left; omega
          · right
            obtain ⟨j, rfl⟩ := Int.eq_ofNat_of_zero_le h2
            rw [Hps.isU, show ((j : Int) != -1) = true by rw [bne_iff_ne]; omega, Bool.true_and, Bool.not_eq_false', Hps.hasB, Bool.and_eq_true] at h1
            exact (HV.out.2 j).1 (by simpa using h1.2))
        have HTK := Lib.hid (takeTop_any B b V n _ sv st' (k : Int) w4 W4 (by omega))
        have hbl := row_type O4 W4.box (by decide)
        clear hno hix HI HD W4
        go_wp2_with fail
        refine HTK.out.mono ?_
        rintro e w6 ⟨rfl, sv6, W6, b6, Y6⟩
        obtain ⟨O6, N6⟩ := Y6.row O4 hbl N
        have HS6 := Lib.hid (stackW_eq W6)
        have b7 := b4.trans b6
        have Y7 := Y4.trans Y6
        clear HTK Y6 b6 Y4
        go_wp2_with fail
        go_roundw
        case rel => exact ⟨V, sv6, st', q, W6, HV, O6, Y7, N6, HDN, b7⟩
        case measure => rw [HS6.out, HSW.out]; simp
      · rw [hix]
        obtain ⟨ka, hka⟩ : ∃ ka, a.length = ka := ⟨_, rfl⟩
        have hxr : cl.r[ka]? = some x := by rw [hcr, List.getElem?_append_right (by omega), hka, Nat.sub_self]; rfl
        have hkq : ka < q' := by have := (List.getElem?_eq_some_iff.1 hxr).1; have := HIX.out.1; omega
        have hox := Hps.okRefs_at HCK.out hxr
        rw [Hps.isU, Bool.and_eq_true, bne_iff_ne, Bool.not_eq_true'] at hyes
        have hx0 : 0 ≤ x := by have := Hps.okRef_lo hox; have := hyes.1; omega
        obtain ⟨z, rfl, hz, _⟩ := Hps.okRef_nat hox hx0
        rw [hlc] at hz
        have hzl : (z : Int) ∉ l0 ++ q := fun hm => by
          have h1 := (HV.out.2 z).2 hm
          rw [Hps.hasB, Int.toNat_natCast, h1, decide_eq_true (by omega : (0 : Int) ≤ z)] at hyes
          cases hyes.2
        have HDN := Lib.hid (HD.out.push (x := (z : Int)) (a := a) (b := t) (by rw [HRA.out]; exact hcr) (fun m hm => by
          have h1 := hno m hm
          have hmr : m ∈ cl.r := by rw [hcr]; simp [hm]
          rcases Hps.okRef_iff.1 (Hps.okRefs_iff.1 HCK.out m hmr) with h2 | ⟨h2, _⟩
          · left; omega
          · right
            obtain ⟨j, rfl⟩ := Int.eq_ofNat_of_zero_le h2
            rw [Hps.isU, show ((j : Int) != -1) = true by rw [bne_iff_ne]; omega, Bool.true_and, Bool.not_eq_false', Hps.hasB, Bool.and_eq_true] at h1
            exact (HV.out.2 j).1 (by simpa using h1.2)) (by omega) hzl hox)
        have hpl := HDN.out.st_len
        have hql2 := HDN.out.len
        rw [hlc, List.length_append, List.length_append, List.length_singleton] at hpl hql2
        simp only [List.length_singleton] at hpl hql2
        have HVN := Lib.hid (HV.out.snoc (k := z) (by omega))
        obtain ⟨g6, o6, z6, e6, hg6, hz6, c6⟩ := hf4.at_ (k := ka) hkq
        subst e6
        rw [hxr] at hz6
        obtain rfl := Option.some.inj hz6
        have hkq' : (ka : Int) < q' := by omega
        rw [hka]
        have HMK := Lib.hid (mark_any B b V n z _ sv (st' ++ [(k : Int)]) w4 W4 HV.out.lt (by omega) (by omega) (by rw [List.length_append, List.length_singleton]; omega) (by omega))
        have HPS := Lib.hid (show putS n (st' ++ [(k : Int)]) (z : Int) = (st' ++ [(k : Int)]) ++ [(z : Int)] by rw [putS, if_pos (by rw [List.length_append, List.length_singleton]; omega)])
        have hbl := row_type O4 W4.box (by decide)
        have hka1 : ¬ (ka : Int) = -1 := by omega
        have hka2 : ((ka : Int) == -1) = false := by rw [beq_eq_false_iff_ne]; exact hka1
        have hw6 : g6 < B := by
          obtain ⟨g7, o7, z7, e7, hg7, _, _⟩ := HIX.out.at_ (k := ka) hkq
          injection e7 with e7
          injection e7 with e7 _
          omega
        clear hno hix hcr hxr hyes hox hx0 hzl HI HD hz6 W4 HV hka
        go_wp2_with fail
        refine HMK.out.mono ?_
        rintro e w6 ⟨rfl, sv6, W6, b6, Y6⟩
        rw [HPS.out] at W6
        obtain ⟨O6, N6⟩ := Y6.row O4 hbl N
        have d6 := (b6.cell (p := ⟨g6, o6 + ka, none⟩) hw6).trans c6
        have b7 := b4.trans b6
        have hz7 := b7.size
        have W7 := W6.alloc (.cells #[.int .i64 z] 3)
        have O7 := (World.ownsRow.alloc O6 (.cells #[.int .i64 z] 3) : OwnI _ _ _ _)
        have b8 := b7.alloc (by omega) (.cells #[.int .i64 z] 3)
        have rr : IS (w6.alloc (.cells #[.int .i64 z] 3)) (w6.alloc (.cells #[.int .i64 z] 3)).heap.size (some ⟨w6.heap.size, 0, none⟩) 1 [(z : Int)] := (own_oneI w6 (z : Int) 0 (Nat.zero_le _)).reads
        have hl7 : q.length + 1 ≤ 1099511627776 := by omega
        have hsz : B ≤ (w6.alloc (.cells #[.int .i64 z] 3)).heap.size := by simp; omega
        have hbl7 := row_type O7 W7.box (by decide)
        have SB := Lib.hid (fun k hk => (World.ownsRow.lt W7.s k hk).2)
        have Y7 := Lib.hid (Y4.trans Y6)
        have hsw : w.heap.size ≤ (w6.alloc (.cells #[.int .i64 z] 3)).heap.size := by have := Y7.out.size; simp; omega
        clear HMK Y6 b6 O4 c6 O6 W6 Y4
        go_wp2_with (at_builtin; refine wpList_appendI rfl (.tmp 45) (.tmp 50) rfl w.heap.size _ q rfl O7 (some ⟨w6.heap.size, 0, none⟩) 1 1 _ [(z : Int)] rfl rr hl7 hsw ?_; intro v5 w5 o5 g5 s5; have S5 := W7.far g5 hbl7 (apart_back N6); have Y5 := Y7.out.far g5 (fun k hk => (World.ownsRow.lt O7 k hk).1); have b5 := b8.grown g5 hsz (fun k hk => by have := (World.ownsRow.lt O7 k hk).1; have := HSZ.out; omega); have HS5 := Lib.hid (stackW_eq S5); have HL5 := Lib.hid (lenV_eq o5))
        go_roundw
        case rel =>
          refine ⟨_, sv6, _, q ++ [(z : Int)], S5, Lib.hid (by rw [← List.append_assoc]; exact HVN.out), o5, Y5, ?_, Lib.hid (by rw [← List.append_assoc]; exact HDN.out), b5⟩
          rcases s5 with s5 | s5
          · rw [s5]
            exact N6
          · right
            rw [s5]
            intro e
            have := SB.out _ e.symm
            omega
        case measure => rw [HS5.out, HSW.out, HL5.out, HLV.out]; simp; omega
set_option maxHeartbeats 2000000 in
theorem markDepth_any (A R : Option Addr) (n c m d : Nat) (h : Hp) (w : World) (hs : HS w w.heap.size A n R m h) (hn : n ≤ 1099511627776) (hm : m ≤ 1099511627776) (hnc : n ≤ c) (hmd : m ≤ d) :
    Calls Try.prog 35 #[heapV A n c R m d] w (GaveI w (Hps.depthH h)) := by
  have hlc := hs.cells.1
  have hlr := hs.roots.1
  have b1 := (Below.refl w.heap.size w).alloc (Nat.le_refl _) (.cells #[.slice A n c, .slice R m d] 28)
  have q1 := Rw.new w 28 #[.slice A n c, .slice R m d]
  have hs1 := hs.up b1
  have hz1 : (w.alloc (.cells #[.slice A n c, .slice R m d] 28)).heap.size = w.heap.size + 1 := by simp
  go_enter Try.func35, Try.ntmps35
  go_upto_region 1 with fail
  generalize w.alloc (.cells #[.slice A n c, .slice R m d] 28) = w1 at b1 q1 hs1 hz1 ⊢
  obtain ⟨q, hq⟩ : ∃ q, w.heap.size = q := ⟨_, rfl⟩
  have HQ := Lib.hid hq
  rw [hq] at b1 q1 hz1 ⊢
  have HZ1 := Lib.hid hz1
  have hsB := (hs.below (by rw [hq]; exact b1)).more (B' := q + 1) (by omega)
  have hq1 : q ≤ w1.heap.size := by omega
  clear hz1 hq
  have y0 : w1.cell? ⟨q, 0, none⟩ = some (.slice A n c) := q1.cell 0
  have y1 : w1.cell? ⟨q, 1, none⟩ = some (.slice R m d) := q1.cell 1
  have HHV := Lib.hid (heapValid_any A R n c m d h w1 hs1 hn hm hnc hmd)
  clear hs1
  cases hv : Hps.validH h
  · have HD := Lib.hid (Hps.depth_not hv)
    go_wp2_with fail
    refine HHV.out.mono ?_
    rw [hv]
    clear hv
    rintro e w2 ⟨rfl, b2⟩
    go_wp2_with fail
    go_ret
    refine ⟨_, rfl, ?_, ?_⟩
    · rw [HD.out]
      exact World.ownsRow_nil _ _ _ _
    · rw [HQ.out]
      exact b1.trans (b2.mono hq1)
  · have HD := Lib.hid (fun (r : List Int) (hr : Hps.Dfs h.cs h.rt [] r) => Hps.depth_eq hv hr)
    obtain ⟨s1, s2, s3⟩ := Hps.valid_small hv
    have HRF := Lib.hid (Hps.valid_refs hv)
    have HRO := Lib.hid (Hps.valid_iff.1 hv).2.2.2
    have HS3 := Lib.hid s3
    rw [hlc] at s1
    clear s3 s2
    go_wp2_with fail
    refine HHV.out.mono ?_
    rw [hv]
    clear hv
    rintro e w2 ⟨rfl, b2⟩
    have q2 := q1.keep b2 q1.lt
    have z2 := b2.size
    have x0 : w2.cell? ⟨q, 0, none⟩ = some (.slice A n c) := q2.cell 0
    have x1 : w2.cell? ⟨q, 1, none⟩ = some (.slice R m d) := q2.cell 1
    have b3 := b1.trans (b2.mono hq1)
    have hsB2 := hsB.below (b2.mono (by have := HZ1.out; omega))
    have hql := q2.lt
    have b4 := b3.alloc (by omega) (.cells #[.slice A n c, .int .u64 0, .int .i64 n, .slice none 0 0] 116)
    have q4 := q2.alloc (.cells #[.slice A n c, .int .u64 0, .int .i64 n, .slice none 0 0] 116)
    have mb := Rw.new w2 116 #[.slice A n c, .int .u64 0, .int .i64 n, .slice none 0 0]
    have hs4 := hsB2.below ((Below.refl (q + 1) w2).alloc (by omega) (.cells #[.slice A n c, .int .u64 0, .int .i64 n, .slice none 0 0] 116))
    have z4 : (w2.alloc (.cells #[.slice A n c, .int .u64 0, .int .i64 n, .slice none 0 0] 116)).heap.size = w2.heap.size + 1 := by simp
    clear HHV y0 y1 q1 b1 b2 hsB hsB2 q2 b3
    go_upto_region 4 with fail
    generalize w2.alloc (.cells #[.slice A n c, .int .u64 0, .int .i64 n, .slice none 0 0] 116) = w4 at b4 q4 mb hs4 z4 ⊢
    have hqb : q + 1 ≤ w2.heap.size := by omega
    generalize w2.heap.size = b at mb z4 hqb ⊢
    have HZ4 := Lib.hid z4
    have W4 : MkSt w4 (q + 1) b (.slice A n c) 0 n (.slice none 0 0) [] := ⟨mb, World.ownsRow_nil _ _ _ _, hqb⟩
    have y1 : w4.cell? ⟨q, 1, none⟩ = some (.slice R m d) := q4.cell 1
    have h4 : q + 1 ≤ w4.heap.size := by omega
    clear x0 x1 hql z2 z4 mb
    go_wp2_with fail
    go_loopw [4, 20] (fun lv i wr => ∃ (k V : Nat) (sv : Value) (l : List Int), k ≤ m ∧ i = .int .i64 k ∧ MkSt wr (q + 1) b (.slice A n c) V n sv [] ∧ Hid (Hps.WordOf V l) ∧ OwnI wr (q + 1) lv l ∧ (lv.ownBlock = none ∨ lv.ownBlock ≠ sv.ownBlock) ∧ Hid (Hps.Dfs h.cs (h.rt.take k) [] l) ∧ Hid l.Nodup ∧ Hid (Hps.InB h.cs l) ∧ Below (q + 1) w4 wr) (fun _ i _ => m - (intOf i).toNat)
    case atStart => exact ⟨0, 0, _, [], Nat.zero_le _, rfl, W4, Lib.hid Hps.WordOf.nil, World.ownsRow_nil _ _ _ _, .inl rfl, Lib.hid (by rw [List.take_zero]; exact .nil), Lib.hid (by simp), Lib.hid (fun x hx => by simp at hx), Below.refl _ _⟩
    case round =>
      clear W4 y1
      obtain ⟨k, V, sv, l, hk, rfl, W, HV, O, N, HDF, HND, HIN, bb⟩ := hrel
      have Q := q4.keep bb (by omega)
      by_cases hlt : k < m
      · obtain ⟨gr, or, x, e2, hgr, hx, d0⟩ := hs4.roots.at_ hlt
        subst e2
        have e0 := (bb.cell (p := ⟨gr, or + k, none⟩) hgr).trans d0
        have hlt' : (k : Int) < m := by omega
        have HT := Lib.hid (take_snocI hx)
        have hok := Hps.okRefs_at HRO.out hx
        have HIU := Lib.hid (isUnmarked_any (q + 1) b V n _ sv [] x wr W HV.out.lt)
        obtain ⟨u, hu⟩ : ∃ u, (x != -1 && !Hps.hasB V x) = u := ⟨_, rfl⟩
        rw [hu] at HIU
        cases u
        · have hin : x < 0 ∨ x ∈ l := by
            rcases Hps.okRef_iff.1 hok with h2 | ⟨h2, _⟩
            · left; omega
            · right
              obtain ⟨j, rfl⟩ := Int.eq_ofNat_of_zero_le h2
              rw [show ((j : Int) != -1) = true by rw [bne_iff_ne]; omega, Bool.true_and, Bool.not_eq_false', Hps.hasB, Bool.and_eq_true] at hu
              exact (HV.out.2 j).1 (by simpa using hu.2)
          have HN := Lib.hid (HDF.out.append (.skip hin .nil))
          rw [← HT.out] at HN
          clear hx hok hu hin
          go_wp2_with fail
          refine HIU.out.mono ?_
          rintro e w5 ⟨rfl, rfl⟩
          go_wp2_with fail
          go_roundw
          case rel => exact ⟨k + 1, V, sv, l, by omega, by go_num, W, HV, O, N, HN, HND, HIN, bb⟩
          case measure => simp [intOf]; omega
        · rw [Bool.and_eq_true, bne_iff_ne, Bool.not_eq_true'] at hu
          have hx0 : 0 ≤ x := by have := Hps.okRef_lo hok; have := hu.1; omega
          obtain ⟨z, rfl, hz, _⟩ := Hps.okRef_nat hok hx0
          rw [hlc] at hz
          have hzl : (z : Int) ∉ l := fun hm => by
            have h1 := (HV.out.2 z).2 hm
            rw [Hps.hasB, Int.toNat_natCast, h1, decide_eq_true (by omega : (0 : Int) ≤ z)] at hu
            cases hu.2
          have HMD := Lib.hid (metDeep_any w4 (q + 1) b n c z V A sv h.cs l wr hs4.cells HRF.out HS3.out s1 h4 W HV.out hok hzl HND.out HIN.out bb)
          have hbl := row_type O W.box (by decide)
          have HLL := Lib.hid (HIN.out.le HND.out)
          clear hx hok hu hx0 hzl
          go_wp2_with fail
          refine HIU.out.mono ?_
          rintro e w5 ⟨rfl, rfl⟩
          go_wp2_with fail
          refine HMD.out.mono ?_
          rintro e w6 ⟨rv, sv6, V6, p6, rfl, P6, Y6, W6, HV6, D6, ND6, IN6, b6⟩
          obtain ⟨O6, N6⟩ := Y6.row O hbl N
          obtain ⟨A6, c6, rfl, -⟩ := P6.form
          have HN := Lib.hid (HDF.out.append D6)
          rw [← HT.out] at HN
          have hl6 := IN6.le ND6
          rw [hlc] at hl6
          have hl7 : l.length + p6.length ≤ 1099511627776 := by rw [List.length_append] at hl6; omega
          have hsz : q + 1 ≤ w6.heap.size := by have := Y6.size; have := bb.size; omega
          have rr := P6.reads
          have hbl6 := row_type O6 W6.box (by decide)
          have SB := Lib.hid (fun k hk => (World.ownsRow.lt W6.s k hk).2)
          have HV7 := Lib.hid HV6
          have ND7 := Lib.hid ND6
          have IN7 := Lib.hid IN6
          obtain ⟨L6, hL6⟩ : ∃ L6, p6.length = L6 := ⟨_, rfl⟩
          rw [hL6] at hl7 rr ⊢
          clear HIU HMD HV6 D6 ND6 IN6 Y6 O P6 hL6 hl6 HDF HND HIN HV W e0 hbl
          go_wp2_with (at_builtin; refine wpList_appendI rfl (.tmp 26) (.tmp 28) rfl (q + 1) _ l rfl O6 A6 L6 c6 _ p6 rfl rr hl7 hsz ?_; intro v5 w5 o5 g5 s5; have S5 := W6.far g5 hbl6 (apart_back N6); have b5 := b6.grown g5 hsz (fun k hk => (World.ownsRow.lt O6 k hk).1))
          go_roundw
          case rel =>
            refine ⟨k + 1, V6, sv6, l ++ p6, by omega, by go_num, S5, HV7, o5, ?_, HN, ND7, IN7, b5⟩
            rcases s5 with s5 | s5
            · rw [s5]
              exact N6
            · right
              rw [s5]
              intro e
              have := SB.out _ e.symm
              omega
          case measure => simp [intOf]; omega
      · obtain rfl : k = m := by omega
        rw [List.take_of_length_le (by omega)] at HDF
        have HE := Lib.hid (HD.out l HDF.out)
        go_wp2_with fail
        go_ret
        refine ⟨_, rfl, ?_, ?_⟩
        · rw [HE.out, HQ.out]
          exact O.base (by omega)
        · rw [HQ.out]
          exact b4.trans (bb.mono (by omega))
end Go.Proofs.Ytmjejcfifkbkoaa
