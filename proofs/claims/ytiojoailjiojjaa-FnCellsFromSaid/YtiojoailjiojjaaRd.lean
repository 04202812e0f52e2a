/- What the model's TrialCounts returns: for every heap and every set. No conditions. -/
import Derived.Test.YtiojoailjiojjaaRa
import Derived.Test.YtiojoailjiojjaaHg
namespace Go.Proofs.Ytiojoailjiojjaa
open Go.RowKit
set_option maxRecDepth 100000

namespace Hps
theorem outTo_len {h : Hp} {s : List Bool} (h3 : ∀ c ∈ h.cs, c.r.length ≤ 3) : ∀ i, i ≤ h.cs.length → (outTo h s i).length ≤ h.rt.length + 3 * i
  | 0, _ => by rw [outTo]; omega
  | i + 1, hi => by
    have ih := outTo_len (s := s) h3 i (by omega)
    have hc := List.getElem?_eq_getElem (show i < h.cs.length by omega)
    by_cases e : s[i]? = some true
    · rw [outTo_in e]
      omega
    · rw [outTo_out e hc, List.length_append]
      have := h3 _ (List.mem_of_getElem? hc)
      omega
theorem cnt_take {rs : List Int} {j : Nat} {x : Int} (hx : rs[j]? = some x) (L : List Int) (k : Nat) : (L ++ rs.take (j + 1)).count (k : Int) = (L ++ rs.take j).count (k : Int) + (if x = (k : Int) then 1 else 0) := by
  rw [take_snocI hx, ← List.append_assoc, List.count_append (l₁ := L ++ rs.take j), List.count_singleton]
  by_cases e : x = (k : Int)
  · simp [e]
  · simp [e]
theorem trial_take {h : Hp} {s : List Bool} {k : Nat} (hk : k < h.cs.length) : (trialL h s).take (k + 1) = (trialL h s).take k ++ [trialAt h s k] := take_snocI (trialL_at hk)
end Hps

set_option maxHeartbeats 4000000 in
theorem mTrialCounts_any (A R F : Option Addr) (n c m d q e : Nat) (h : Hp) (bs : List Bool) (w : World) (hs : HS w w.heap.size A n R m h) (ho : OS w w.heap.size F q bs) (hn : n ≤ 1099511627776) (hm : m ≤ 1099511627776) (hq : q ≤ 1099511627776) :
    Calls Try.prog 10 #[heapV A n c R m d, .slice F q e] w (GaveI w (Hps.trialH h bs)) := by
  have hlc := hs.cells.1
  have hlb := ho.1
  have b0 : Below w.heap.size w ((w.alloc (.cells #[.slice A n c, .slice R m d] 26)).alloc (.cells #[] 3)) := ((Below.refl _ _).alloc (Nat.le_refl _) _).alloc (by simp) _
  have r0 := hs.up b0
  have f0 := ho.up b0
  have hw0 := (Rw.new w 26 #[.slice A n c, .slice R m d]).alloc (.cells #[] 3)
  have on0 := own_noneI (w.alloc (.cells #[.slice A n c, .slice R m d] 26)) (w.heap.size + 1) (by simp)
  have hz0 : (w.alloc (.cells #[.slice A n c, .slice R m d] 26)).heap.size = w.heap.size + 1 := by simp
  rw [hz0] at on0
  cases hv : Hps.validH h
  · have HR := Lib.hid (show Hps.trialH h bs = [] by rw [Hps.trialH, hv]; rfl)
    have HV := Lib.hid hv
    clear hv
    go_enter Try.func10, Try.ntmps10
    go_wp2_with fail
    refine (mHeapValid_any _ _ _ _ _ _ h _ r0 hn hm).mono ?_
    rw [HV.out]
    rintro e w1 ⟨rfl, b1⟩
    have bb1 := b0.trans (b1.mono b0.size)
    have on1 := on0.below b1 (Nat.le_refl _)
    go_wp2_with fail
    go_ret
    exact ⟨_, rfl, by rw [HR.out]; exact on1.base (by omega), bb1⟩
  · obtain ⟨s1, s2, s3⟩ := Hps.valid_small hv
    have HV := Lib.hid hv
    have HS3 := Lib.hid s3
    have hlr := hs.roots.1
    by_cases hqn : q = n
    · subst hqn
      have HRT : Hid ((∀ k : Nat, k < q → bs[k]? = some true → Hps.usedAt h.cs k = true) → Hps.trialH h bs = Hps.trialL h bs) := Lib.hid fun hk => by
        have : Hps.okSet h bs = true := Hps.okSet_iff.2 ⟨by omega, fun k hk2 => hk k (by have := (List.getElem?_eq_some_iff.1 hk2).1; omega) hk2⟩
        rw [Hps.trialH, hv, this]
        rfl
      have HRF : Hid (∀ k : Nat, bs[k]? = some true → Hps.usedAt h.cs k = false → Hps.trialH h bs = []) := Lib.hid fun k h1 h2 => by
        have : Hps.okSet h bs = false := by
          cases e : Hps.okSet h bs
          · rfl
          · rw [(Hps.okSet_iff.1 e).2 k h1] at h2
            cases h2
        rw [Hps.trialH, hv, this]
        rfl
      have HLC := Lib.hid hlc
      have HLB := Lib.hid hlb
      have HTL := Lib.hid (show (Hps.trialL h bs).length = q by rw [Hps.trialL_len, hlc])
      have HOL : Hid (∀ i, i ≤ q → (Hps.outTo h bs i).length ≤ 4 + 3 * i) := Lib.hid fun i hi => by
        have := Hps.outTo_len (s := bs) s3 i (by omega)
        omega
      clear hv s3 hlb hlc
      go_enter Try.func10, Try.ntmps10
      go_wp2_with fail
      refine (mHeapValid_any _ _ _ _ _ _ h _ r0 hn hm).mono ?_
      rw [HV.out]
      rintro e w1 ⟨rfl, b1⟩
      have bb1 := b0.trans (b1.mono b0.size)
      have hw1 := hw0.keep b1 hw0.lt
      have on1 := on0.below b1 (Nat.le_refl _)
      have z0 : w1.cell? ⟨w.heap.size, 0, none⟩ = some (.slice A q c) := hw1.cell 0
      have sz1 : w.heap.size + 1 ≤ w1.heap.size := by have := hw1.lt; omega
      have HT0 := Lib.hid (show ([] : List Int) = (Hps.trialL h bs).take 0 by simp)
      rw [HT0.out] at on1
      have hq40 : q ≤ 40 := by have := HLC.out; omega
      clear hw0 on0 b1 b0
      go_wp2_with fail
      go_loopw [5, 6] (fun o i wr => ∃ k : Nat, k ≤ q ∧ i = .int .i64 k ∧ OwnI wr (w.heap.size + 1) o ((Hps.trialL h bs).take k) ∧ Hid (∀ i : Nat, i < k → bs[i]? = some true → Hps.usedAt h.cs i = true) ∧ Rw wr w.heap.size 26 #[.slice A q c, .slice R m d] ∧ Below w.heap.size w wr) (fun _ i _ => q - (intOf i).toNat)
      case atStart => exact ⟨0, Nat.zero_le _, rfl, on1, Lib.hid (fun i hi => by omega), hw1, bb1⟩
      case round =>
        clear on1 hw1 bb1 z0 sz1 r0 f0 HT0
        obtain ⟨k, hk, rfl, ow, HP, hw5, bb⟩ := hrel
        obtain ⟨w5, hww⟩ : ∃ w5, w5 = wr := ⟨_, rfl⟩
        subst hww
        obtain ⟨Ao, co, eo, _⟩ := ow.form
        generalize hlo : ((Hps.trialL h bs).take k).length = lo at eo
        subst eo
        have hlo2 : lo ≤ 40 := by rw [← hlo, List.length_take]; omega
        have z0 : w5.cell? ⟨w.heap.size, 0, none⟩ = some (.slice A q c) := hw5.cell 0
        have z1 : w5.cell? ⟨w.heap.size, 1, none⟩ = some (.slice R m d) := hw5.cell 1
        have sz5 := hw5.lt
        by_cases hlt : k < q
        · obtain ⟨gf, of_, b, rfl, hgf, hb, c1⟩ := (ho.below bb).at_ hlt
          obtain ⟨gc, oc, cl, A', m', cc, e1, hgc, hcl, d1, d2, d3, hmc, hi⟩ := (hs.cells.below bb).at_ hlt
          subst e1
          have hlt' : (k : Int) < q := by omega
          have HTK0 := Lib.hid (Hps.trial_take (h := h) (s := bs) (k := k) (by rw [HLC.out]; exact hlt))
          cases b
          · have HTA := Lib.hid (Hps.trial_not (h := h) (s := bs) (k := k) (by rw [hb]; simp))
            have HTK := Lib.hid (show (Hps.trialL h bs).take (k + 1) = (Hps.trialL h bs).take k ++ [-1] by rw [HTK0.out, HTA.out])
            have HP2 : Hid (∀ i : Nat, i < k + 1 → bs[i]? = some true → Hps.usedAt h.cs i = true) := Lib.hid fun i hi2 hbi => by
              rcases Nat.lt_or_ge i k with h1 | h1
              · exact HP.out i h1 hbi
              · obtain rfl : i = k := by omega
                rw [hb] at hbi
                cases hbi
            have oa := World.ownsRow.alloc ow (.cells #[.int .i64 (-1)] 3)
            have rr : IS (w5.alloc (.cells #[.int .i64 (-1)] 3)) (w5.alloc (.cells #[.int .i64 (-1)] 3)).heap.size (some ⟨w5.heap.size, 0, none⟩) 1 [-1] := (own_oneI w5 (-1) 0 (Nat.zero_le _)).reads
            have hsz : w.heap.size + 1 ≤ (w5.alloc (.cells #[.int .i64 (-1)] 3)).heap.size := by simp; omega
            have hwa := hw5.alloc (.cells #[.int .i64 (-1)] 3)
            have ba := bb.alloc bb.size (.cells #[.int .i64 (-1)] 3)
            clear hb hcl HTA
            go_wp2_with (at_builtin; refine wpList_appendI rfl (.tmp 102) (.tmp 104) rfl (w.heap.size + 1) _ ((Hps.trialL h bs).take k) rfl oa (some ⟨w5.heap.size, 0, none⟩) 1 1 _ [-1] rfl rr (by simp; omega) hsz ?_; intro v6 w6 o6 g6 _s6)
            have hw6 := Rw.far hwa g6 (row_ne oa (by omega))
            have bb6 := ba.grown g6 (by simp; omega) (fun kk hk => by have := (World.ownsRow.lt oa kk hk).1; omega)
            rw [← HTK.out] at o6
            obtain ⟨A6, c6, e6, _⟩ := o6.form
            generalize hl6 : ((Hps.trialL h bs).take (k + 1)).length = l6 at e6
            subst e6
            clear oa rr g6 hwa ba
            go_roundw
            case rel => exact ⟨k + 1, by omega, by go_num, o6, HP2, hw6, bb6⟩
            case measure => simp [intOf]; omega
          · cases hu : cl.u
            · have HR := Lib.hid (HRF.out k hb (by rw [Hps.usedAt, hcl]; exact hu))
              have oz := own_noneI w5 w.heap.size bb.size
              have bz := bb.alloc bb.size (.cells #[] 3)
              rw [hu] at d1
              clear hb hcl hu
              go_wp2_with fail
              go_ret
              exact ⟨_, rfl, by rw [HR.out]; exact oz, bz⟩
            · have HP2 : Hid (∀ i : Nat, i < k + 1 → bs[i]? = some true → Hps.usedAt h.cs i = true) := Lib.hid fun i hi2 hbi => by
                rcases Nat.lt_or_ge i k with h1 | h1
                · exact HP.out i h1 hbi
                · obtain rfl : i = k := by omega
                  exact Hps.usedAt_iff.2 ⟨cl, hcl, hu⟩
              have HBK := Lib.hid hb
              have hro := hs.roots.below bb
              have hcs5 := hs.cells.below bb
              have hos5 := ho.below bb
              rw [hu] at d1
              clear hb hcl hu
              go_wp2_with fail
              go_loopw [7, 8] (fun nn i wr => ∃ j : Nat, j ≤ m ∧ i = .int .i64 j ∧ nn = .int .i64 (((h.rt.take j).count (k : Int) : Nat) : Int) ∧ w5 = wr) (fun _ i _ => m - (intOf i).toNat)
              case atStart => exact ⟨0, Nat.zero_le _, rfl, by simp, rfl⟩
              case round =>
                obtain ⟨j, hj, rfl, rfl, rfl⟩ := hrel
                have hcl := Hps.count_le_len (h.rt.take j) (k : Int)
                rw [List.length_take] at hcl
                by_cases hlj : j < m
                · obtain ⟨gr, or, x, e2, hgr, hx, e0⟩ := hro.at_ hlj
                  subst e2
                  have hlj' : (j : Int) < m := by omega
                  have HN := Lib.hid (Hps.cnt_take hx [] k)
                  simp only [List.nil_append] at HN
                  obtain ⟨ct, hct⟩ : ∃ ct, (h.rt.take j).count (k : Int) = ct := ⟨_, rfl⟩
                  have HCT := Lib.hid hct
                  rw [hct] at HN hcl
                  rw [HCT.out]
                  have hwr : IntKind.i64.wrap ((ct : Int) + 1) = (ct : Int) + 1 := IntWalk.i64_in _ (by omega)
                  clear hx hct
                  by_cases hxk : x = (k : Int)
                  · have HN2 := HN.out
                    rw [if_pos hxk] at HN2
                    have HN3 := Lib.hid HN2
                    have hxk' : (x == (k : Int)) = true := by rw [beq_iff_eq]; exact hxk
                    clear HN HN2 hxk
                    go_wp2_with fail
                    go_roundw
                    case rel => exact ⟨j + 1, by omega, by go_num, by rw [HN3.out, show ((ct + 1 : Nat) : Int) = (ct : Int) + 1 by omega], trivial⟩
                    case measure => simp [intOf]; omega
                  · have HN2 := HN.out
                    rw [if_neg hxk, Nat.add_zero] at HN2
                    have HN3 := Lib.hid HN2
                    have hxk' : (x == (k : Int)) = false := by rw [beq_eq_false_iff_ne]; exact hxk
                    clear HN HN2 hxk
                    go_wp2_with fail
                    go_roundw
                    case rel => exact ⟨j + 1, by omega, by go_num, by rw [HN3.out] <;> simp, trivial⟩
                    case measure => simp [intOf]; omega
                · obtain rfl : j = m := by omega
                  have HJ := Lib.hid (show h.rt.take j = Hps.outTo h bs 0 by rw [List.take_of_length_le (by omega)]; rfl)
                  rw [HJ.out]
                  clear hcl
                  go_wp2_with fail
                  go_loopw [7, 9] (fun nn i wr => ∃ i' : Nat, i' ≤ q ∧ i = .int .i64 i' ∧ nn = .int .i64 (((Hps.outTo h bs i').count (k : Int) : Nat) : Int) ∧ w5 = wr) (fun _ i _ => q - (intOf i).toNat)
                  case atStart => exact ⟨0, Nat.zero_le _, rfl, rfl, rfl⟩
                  case round =>
                    obtain ⟨i', hi', rfl, rfl, rfl⟩ := hrel
                    by_cases hli : i' < q
                    · obtain ⟨gi, oi, ci, A2, m2, c2, e1, hgi, hci, i1, i2, i3, hm2, hii⟩ := hcs5.at_ hli
                      injection e1 with e1
                      injection e1 with e1a e1b
                      subst e1a e1b
                      obtain ⟨gf', of', bi, e1, _, hbi, j1⟩ := hos5.at_ hli
                      injection e1 with e1
                      injection e1 with e1a e1b
                      subst e1a e1b
                      have hli' : (i' : Int) < q := by omega
                      have hm3 : m2 ≤ 3 := by have := HS3.out ci (List.mem_of_getElem? hci); have := hii.1; omega
                      have hm2l := hii.1
                      have hol := HOL.out i' (by omega)
                      cases bi
                      · have HO := Lib.hid (Hps.outTo_out (h := h) (s := bs) (i := i') (by rw [hbi]; simp) hci)
                        have HZ := Lib.hid (show (Hps.outTo h bs i').count (k : Int) = (Hps.outTo h bs i' ++ ci.r.take 0).count (k : Int) by simp)
                        clear hbi hci
                        go_wp2_with fail
                        go_loopw [7, 10] (fun nn jv wr => ∃ j : Nat, j ≤ m2 ∧ jv = .int .i64 j ∧ nn = .int .i64 (((Hps.outTo h bs i' ++ ci.r.take j).count (k : Int) : Nat) : Int) ∧ w5 = wr) (fun _ jv _ => m2 - (intOf jv).toNat)
                        case atStart => exact ⟨0, Nat.zero_le _, rfl, by rw [HZ.out], rfl⟩
                        case round =>
                          obtain ⟨j, hj, rfl, rfl, rfl⟩ := hrel
                          have hcl := Hps.count_le_len (Hps.outTo h bs i' ++ ci.r.take j) (k : Int)
                          rw [List.length_append, List.length_take] at hcl
                          by_cases hlj : j < m2
                          · obtain ⟨gr, or, x, e2, hgr, hx, e0⟩ := hii.at_ hlj
                            subst e2
                            have hlj' : (j : Int) < m2 := by omega
                            have HN := Lib.hid (Hps.cnt_take hx (Hps.outTo h bs i') k)
                            obtain ⟨ct, hct⟩ : ∃ ct, (Hps.outTo h bs i' ++ ci.r.take j).count (k : Int) = ct := ⟨_, rfl⟩
                            have HCT := Lib.hid hct
                            rw [hct] at HN hcl
                            rw [HCT.out]
                            have hwr : IntKind.i64.wrap ((ct : Int) + 1) = (ct : Int) + 1 := IntWalk.i64_in _ (by omega)
                            clear hx hct
                            by_cases hxk : x = (k : Int)
                            · have HN2 := HN.out
                              rw [if_pos hxk] at HN2
                              have HN3 := Lib.hid HN2
                              have hxk' : (x == (k : Int)) = true := by rw [beq_iff_eq]; exact hxk
                              clear HN HN2 hxk
                              go_wp2_with fail
                              go_roundw
                              case rel => exact ⟨j + 1, by omega, by go_num, by rw [HN3.out, show ((ct + 1 : Nat) : Int) = (ct : Int) + 1 by omega], trivial⟩
                              case measure => simp [intOf]; omega
                            · have HN2 := HN.out
                              rw [if_neg hxk, Nat.add_zero] at HN2
                              have HN3 := Lib.hid HN2
                              have hxk' : (x == (k : Int)) = false := by rw [beq_eq_false_iff_ne]; exact hxk
                              clear HN HN2 hxk
                              go_wp2_with fail
                              go_roundw
                              case rel => exact ⟨j + 1, by omega, by go_num, by rw [HN3.out] <;> simp, trivial⟩
                              case measure => simp [intOf]; omega
                          · obtain rfl : j = m2 := by omega
                            have HE := Lib.hid (show (Hps.outTo h bs i' ++ ci.r.take j).count (k : Int) = (Hps.outTo h bs (i' + 1)).count (k : Int) by rw [HO.out, List.take_of_length_le (by omega)])
                            rw [HE.out]
                            clear hcl
                            go_wp2_with fail
                            go_roundw
                            case rel => exact ⟨i' + 1, by omega, by go_num, rfl, trivial⟩
                            case measure => simp [intOf]; omega
                      · have HO := Lib.hid (Hps.outTo_in (h := h) (s := bs) (i := i') hbi)
                        clear hbi hci
                        go_wp2_with fail
                        go_loopw [7, 10] (fun nn jv wr => jv = .int .i64 0 ∧ nn = .int .i64 (((Hps.outTo h bs i').count (k : Int) : Nat) : Int) ∧ w5 = wr) (fun _ _ _ => 0)
                        case atStart => exact ⟨rfl, rfl, rfl⟩
                        case round =>
                          obtain ⟨rfl, rfl, rfl⟩ := hrel
                          rw [← HO.out]
                          by_cases hm0 : m2 = 0
                          · subst hm0
                            go_wp2_with fail
                            go_roundw
                            case rel => exact ⟨i' + 1, by omega, by go_num, rfl, trivial⟩
                            case measure => simp [intOf]; omega
                          · have hm0' : (0 : Int) < m2 := by omega
                            go_wp2_with fail
                            go_roundw
                            case rel => exact ⟨i' + 1, by omega, by go_num, rfl, trivial⟩
                            case measure => simp [intOf]; omega
                    · obtain rfl : i' = q := by omega
                      have HTA := Lib.hid (show Hps.trialAt h bs k = (((Hps.outTo h bs i').count (k : Int) : Nat) : Int) by rw [Hps.trialAt, if_pos HBK.out, Hps.outOf, HLC.out])
                      obtain ⟨ct, hct⟩ : ∃ ct, (Hps.outTo h bs i').count (k : Int) = ct := ⟨_, rfl⟩
                      rw [hct] at HTA ⊢
                      have HTK := Lib.hid (show (Hps.trialL h bs).take (k + 1) = (Hps.trialL h bs).take k ++ [(ct : Int)] by rw [HTK0.out, HTA.out])
                      clear hct
                      have oa := World.ownsRow.alloc ow (.cells #[.int .i64 ((ct : Int))] 3)
                      have rr : IS (w5.alloc (.cells #[.int .i64 ((ct : Int))] 3)) (w5.alloc (.cells #[.int .i64 ((ct : Int))] 3)).heap.size (some ⟨w5.heap.size, 0, none⟩) 1 [(ct : Int)] := (own_oneI w5 ((ct : Int)) 0 (Nat.zero_le _)).reads
                      have hsz : w.heap.size + 1 ≤ (w5.alloc (.cells #[.int .i64 ((ct : Int))] 3)).heap.size := by simp; omega
                      have hwa := hw5.alloc (.cells #[.int .i64 ((ct : Int))] 3)
                      have ba := bb.alloc bb.size (.cells #[.int .i64 ((ct : Int))] 3)
                      go_wp2_with (at_builtin; refine wpList_appendI rfl (.tmp 102) (.tmp 104) rfl (w.heap.size + 1) _ ((Hps.trialL h bs).take k) rfl oa (some ⟨w5.heap.size, 0, none⟩) 1 1 _ [(ct : Int)] rfl rr (by simp; omega) hsz ?_; intro v6 w6 o6 g6 _s6)
                      have hw6 := Rw.far hwa g6 (row_ne oa (by omega))
                      have bb6 := ba.grown g6 (by simp; omega) (fun kk hk => by have := (World.ownsRow.lt oa kk hk).1; omega)
                      rw [← HTK.out] at o6
                      obtain ⟨A6, c6, e6, _⟩ := o6.form
                      generalize hl6 : ((Hps.trialL h bs).take (k + 1)).length = l6 at e6
                      subst e6
                      clear oa rr g6 hwa ba
                      go_roundw
                      case rel => exact ⟨k + 1, by omega, by go_num, o6, HP2, hw6, bb6⟩
                      case measure => simp [intOf]; omega
        · obtain rfl : k = q := by omega
          have HR := Lib.hid (HRT.out HP.out)
          rw [List.take_of_length_le (by rw [HTL.out]; omega)] at ow
          go_wp2_with fail
          go_ret
          exact ⟨_, rfl, by rw [HR.out]; exact ow.base (by omega), bb⟩
    · have HR := Lib.hid (show Hps.trialH h bs = [] by
        have : Hps.okSet h bs = false := by
          rw [Hps.okSet, decide_eq_false (show ¬ bs.length = h.cs.length by omega)]
          rfl
        rw [Hps.trialH, hv, this]
        rfl)
      have hne : ((q : Int) != n) = true := by rw [bne_iff_ne]; omega
      clear hv hqn
      go_enter Try.func10, Try.ntmps10
      go_wp2_with fail
      refine (mHeapValid_any _ _ _ _ _ _ h _ r0 hn hm).mono ?_
      rw [HV.out]
      rintro e w1 ⟨rfl, b1⟩
      have bb1 := b0.trans (b1.mono b0.size)
      have hw1 := hw0.keep b1 hw0.lt
      have z0 : w1.cell? ⟨w.heap.size, 0, none⟩ = some (.slice A n c) := hw1.cell 0
      have on1 := on0.below b1 (Nat.le_refl _)
      go_wp2_with fail
      go_ret
      exact ⟨_, rfl, by rw [HR.out]; exact on1.base (by omega), bb1⟩
end Go.Proofs.Ytiojoailjiojjaa
