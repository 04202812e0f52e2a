/- What the model's LazyValid returns: for every heap, marks and number. No conditions. -/
import Derived.Test.YtakdjiojahlnmaaTb
import Derived.Test.YtakdjiojahlnmaaHf
namespace Go.Proofs.Ytakdjiojahlnmaa
open Go.RowKit
set_option maxRecDepth 100000

set_option maxHeartbeats 16000000 in
theorem mLazyValid_any (A R D : Option Addr) (n c m d q ce : Nat) (i : Int) (h : Hp) (ms : List Bool) (w : World) (hs : HS w w.heap.size A n R m h) (hk : OS w w.heap.size D q ms) (hn : n ≤ 1099511627776) (hm : m ≤ 1099511627776) (hq : q ≤ 1099511627776) :
    Calls Try.prog 21 #[lzV A n c R m d D q ce i] w fun e w' => (∃ b : Bool, e = .returned (.bool b) ∧ (b = true ↔ Hps.okLz ⟨h, ms, i⟩)) ∧ Below w.heap.size w w' := by
  have b0 : Below w.heap.size w (w.alloc (.cells #[.slice A n c, .slice R m d, .slice D q ce, .int .i64 i] 30)) := (Below.refl _ _).alloc (Nat.le_refl _) _
  have r0 := hs.up b0
  have k0 := hk.up b0
  have q0 := Rw.new w 30 #[.slice A n c, .slice R m d, .slice D q ce, .int .i64 i]
  have HLC := Lib.hid hs.cells.1
  have HLM := Lib.hid hk.1
  have HLR := Lib.hid hs.roots.1
  clear hs hk
  go_enter Try.func21, Try.ntmps21
  go_wp2_with fail
  refine (mHeapValid_any _ _ _ _ _ _ h _ r0 (by omega) (by omega)).mono ?_
  cases hv : Hps.validH h
  · have HE : Hid (¬ Hps.okLz ⟨h, ms, i⟩) := Lib.hid (fun x => by
      have := x.1
      simp only [hv] at this
      cases this)
    clear hv
    rintro e w1 ⟨rfl, b1⟩
    have bb1 := b0.trans (b1.mono b0.size)
    clear b1 r0 k0 q0 b0
    go_wp2_with fail
    go_ret
    exact ⟨⟨false, rfl, ⟨fun x => (by cases x), fun x => absurd x HE.out⟩⟩, bb1⟩
  have HV := Lib.hid hv
  have HS3 := Lib.hid (Hps.valid_small hv).2.2
  have hn40 : n ≤ 40 := by have := HLC.out; have := (Hps.valid_small hv).1; omega
  have hm40 : m ≤ 4 := by have := HLR.out; have := (Hps.valid_small hv).2.1; omega
  have HRF := Lib.hid (Hps.valid_refs hv)
  have HRO := Lib.hid (Hps.valid_iff.1 hv).2.2.2
  clear hv
  rintro e w1 ⟨rfl, b1⟩
  have bb1 := b0.trans (b1.mono b0.size)
  have r1 := r0.up b1
  have k1 := k0.up b1
  have q1 := q0.keep b1 q0.lt
  have x0 : w1.cell? ⟨w.heap.size, 0, none⟩ = some (.slice A n c) := q1.cell 0
  have x1 : w1.cell? ⟨w.heap.size, 1, none⟩ = some (.slice R m d) := q1.cell 1
  have x2 : w1.cell? ⟨w.heap.size, 2, none⟩ = some (.slice D q ce) := q1.cell 2
  have x3 : w1.cell? ⟨w.heap.size, 3, none⟩ = some (.int .i64 i) := q1.cell 3
  clear b1 r0 k0 q0 b0
  by_cases hqn : q = n
  case neg =>
    have HE : Hid (¬ Hps.okLz ⟨h, ms, i⟩) := Lib.hid (fun x => hqn (by
      have h1 := x.2.1
      have h2 := HLC.out
      have h3 := HLM.out
      show q = n
      rw [← h2, ← h3]
      exact h1))
    have hne : ((q : Int) != (n : Int)) = true := by
      rw [bne_iff_ne]
      omega
    clear hqn
    go_wp2_with fail
    go_ret
    exact ⟨⟨false, rfl, ⟨fun x => (by cases x), fun x => absurd x HE.out⟩⟩, bb1⟩
  subst hqn
  have hne : ((q : Int) != (q : Int)) = false := by simp
  by_cases hi : 0 ≤ i ∧ i ≤ (q : Int)
  case neg =>
    have HE : Hid (¬ Hps.okLz ⟨h, ms, i⟩) := Lib.hid (fun x => hi (by
      have h1 := x.2.2.1
      have h3 := HLM.out
      rw [← h3]
      exact h1))
    have HD := Lib.hid (show (decide ((0 : Int) ≤ i) && decide (i ≤ (q : Int))) = false by
      rw [Bool.and_eq_false_iff, decide_eq_false_iff_not, decide_eq_false_iff_not]
      omega)
    clear hi
    go_wp2_with fail
    refine (l1In_any i 0 q _).mono ?_
    rw [HD.out]
    rintro e w4 ⟨rfl, rfl⟩
    go_wp2_with fail
    go_ret
    exact ⟨⟨false, rfl, ⟨fun x => (by cases x), fun x => absurd x HE.out⟩⟩, bb1⟩
  have HD := Lib.hid (show (decide ((0 : Int) ≤ i) && decide (i ≤ (q : Int))) = true by rw [decide_eq_true hi.1, decide_eq_true hi.2]; rfl)
  have HI := Lib.hid hi
  clear hi
  go_wp2_with fail
  refine (l1In_any i 0 q _).mono ?_
  rw [HD.out]
  rintro e w4 ⟨rfl, rfl⟩
  clear HD
  go_wp2_with fail
  refine (l7Reach_any A R R q c m d m d h h.rt _ r1 r1.roots (by omega) (by omega) HRO.out HRF.out (fun cl hcl => Nat.le_trans (HS3.out cl hcl) (by omega))).mono ?_
  have HRL := Lib.hid ((Hps.reachL_len h.cs h.rt).trans HLC.out)
  have HRC := Lib.hid (rfl : Hps.reachL h.cs h.rt = Hps.reachL h.cs h.rt)
  obtain ⟨rs, hrs⟩ : ∃ rs, Hps.reachL h.cs h.rt = rs := ⟨_, rfl⟩
  replace HRC := Lib.hid hrs
  rw [hrs] at HRL ⊢
  clear hrs
  rintro e w2 ⟨v1, rfl, o1, b2⟩
  obtain ⟨A1, c1, e1, -⟩ := o1.form
  rw [HRL.out] at e1
  subst e1
  have R1 := o1.reads
  have r2 := (r1.up b2).cells
  have k2 := k1.up b2
  have q2 := q1.keep b2 q1.lt
  have bb2 := bb1.trans (b2.mono bb1.size)
  clear r1 k1 q1 bb1 b2 x0 x1 x2 x3 o1
  go_wp2_with fail
  go_loopw [4] (fun j wr => ∃ k : Nat, k ≤ q ∧ j = .int .i64 k ∧ Hid (∀ x : Nat, x < k → ¬ Hps.badAt ⟨h, ms, i⟩ x) ∧ Below w2.heap.size w2 wr) (fun j _ => q - (intOf j).toNat)
  case atStart => exact ⟨0, Nat.zero_le _, rfl, Lib.hid (fun x hx => by omega), Below.refl _ _⟩
  case round =>
    obtain ⟨k, hkq, rfl, HP, hb⟩ := hrel
    have bb := bb2.trans (hb.mono bb2.size)
    have q3 := q2.keep hb q2.lt
    have x0 : wr.cell? ⟨w.heap.size, 0, none⟩ = some (.slice A q c) := q3.cell 0
    have x2 : wr.cell? ⟨w.heap.size, 2, none⟩ = some (.slice D q ce) := q3.cell 2
    have x3 : wr.cell? ⟨w.heap.size, 3, none⟩ = some (.int .i64 i) := q3.cell 3
    by_cases hlt : k < q
    · obtain ⟨g1, o1, rb, e1, -, hrb, d1⟩ := (R1.below hb).at_ hlt
      subst e1
      obtain ⟨g2, o2, mb, e2, -, hmb, d2⟩ := (k2.below hb).at_ hlt
      subst e2
      obtain ⟨g3, o3, cl, A', m', cc, e3, -, hcl, d3, -⟩ := (r2.below hb).at_ hlt
      subst e3
      have hlt' : (k : Int) < q := by omega
      have HB : Hid (Hps.badAt ⟨h, ms, i⟩ k ↔ ((rb = true ∧ mb = false) ∨ (mb = true ∧ cl.u = false) ∨ ((k : Int) < i ∧ mb = false ∧ cl.u = true))) := Lib.hid (by
        show ((Hps.reachL h.cs h.rt)[k]? = some true ∧ ms[k]? = some false) ∨ (ms[k]? = some true ∧ Hps.usedAt h.cs k = false) ∨ ((k : Int) < i ∧ ms[k]? = some false ∧ Hps.usedAt h.cs k = true) ↔ _
        rw [HRC.out, hrb, hmb, show Hps.usedAt h.cs k = cl.u by rw [Hps.usedAt, hcl]]
        simp)
      have HNO : Hid (Hps.badAt ⟨h, ms, i⟩ k → ¬ Hps.okLz ⟨h, ms, i⟩) := Lib.hid (fun x y => y.2.2.2 k (by show k < ms.length; rw [HLM.out]; exact hlt) x)
      have HGO : Hid (¬ Hps.badAt ⟨h, ms, i⟩ k → Hid (∀ x : Nat, x < k + 1 → ¬ Hps.badAt ⟨h, ms, i⟩ x)) := Lib.hid (fun hg => Lib.hid (fun x hx => by
        rcases Nat.lt_or_ge x k with h1 | h1
        · exact HP.out x h1
        · obtain rfl : x = k := by omega
          exact hg))
      obtain ⟨ub, hub⟩ : ∃ ub, cl.u = ub := ⟨_, rfl⟩
      rw [hub] at d3 HB
      clear hrb hmb hcl hub HP r2 k2 R1 q2 bb2 q3
      cases rb
      · cases mb
        · cases ub
          · by_cases hki : (k : Int) < i
            · have HN := HGO.out (fun x => by
                have := HB.out.1 x
                simp [hki] at this)
              have hkd : decide ((k : Int) < i) = true := decide_eq_true hki
              clear hki HB HNO HGO
              go_wp2_with fail
              go_roundw
              case rel => exact ⟨k + 1, by omega, by go_num, HN, hb⟩
              case measure => simp [intOf]; omega
            · have HN := HGO.out (fun x => by
                have := HB.out.1 x
                simp [hki] at this)
              have hkd : decide ((k : Int) < i) = false := decide_eq_false hki
              clear hki HB HNO HGO
              go_wp2_with fail
              go_roundw
              case rel => exact ⟨k + 1, by omega, by go_num, HN, hb⟩
              case measure => simp [intOf]; omega
          · by_cases hki : (k : Int) < i
            · have HE := Lib.hid (HNO.out (HB.out.2 (.inr (.inr ⟨hki, rfl, rfl⟩))))
              have hkd : decide ((k : Int) < i) = true := decide_eq_true hki
              clear hki HB HNO HGO
              go_wp2_with fail
              go_ret
              exact ⟨⟨false, rfl, ⟨fun x => (by cases x), fun x => absurd x HE.out⟩⟩, bb⟩
            · have HN := HGO.out (fun x => by
                have := HB.out.1 x
                simp [hki] at this)
              have hkd : decide ((k : Int) < i) = false := decide_eq_false hki
              clear hki HB HNO HGO
              go_wp2_with fail
              go_roundw
              case rel => exact ⟨k + 1, by omega, by go_num, HN, hb⟩
              case measure => simp [intOf]; omega
        · cases ub
          · by_cases hki : (k : Int) < i
            · have HE := Lib.hid (HNO.out (HB.out.2 (.inr (.inl ⟨rfl, rfl⟩))))
              have hkd : decide ((k : Int) < i) = true := decide_eq_true hki
              clear hki HB HNO HGO
              go_wp2_with fail
              go_ret
              exact ⟨⟨false, rfl, ⟨fun x => (by cases x), fun x => absurd x HE.out⟩⟩, bb⟩
            · have HE := Lib.hid (HNO.out (HB.out.2 (.inr (.inl ⟨rfl, rfl⟩))))
              have hkd : decide ((k : Int) < i) = false := decide_eq_false hki
              clear hki HB HNO HGO
              go_wp2_with fail
              go_ret
              exact ⟨⟨false, rfl, ⟨fun x => (by cases x), fun x => absurd x HE.out⟩⟩, bb⟩
          · by_cases hki : (k : Int) < i
            · have HN := HGO.out (fun x => by
                have := HB.out.1 x
                simp [hki] at this)
              have hkd : decide ((k : Int) < i) = true := decide_eq_true hki
              clear hki HB HNO HGO
              go_wp2_with fail
              go_roundw
              case rel => exact ⟨k + 1, by omega, by go_num, HN, hb⟩
              case measure => simp [intOf]; omega
            · have HN := HGO.out (fun x => by
                have := HB.out.1 x
                simp [hki] at this)
              have hkd : decide ((k : Int) < i) = false := decide_eq_false hki
              clear hki HB HNO HGO
              go_wp2_with fail
              go_roundw
              case rel => exact ⟨k + 1, by omega, by go_num, HN, hb⟩
              case measure => simp [intOf]; omega
      · cases mb
        · cases ub
          · by_cases hki : (k : Int) < i
            · have HE := Lib.hid (HNO.out (HB.out.2 (.inl ⟨rfl, rfl⟩)))
              have hkd : decide ((k : Int) < i) = true := decide_eq_true hki
              clear hki HB HNO HGO
              go_wp2_with fail
              go_ret
              exact ⟨⟨false, rfl, ⟨fun x => (by cases x), fun x => absurd x HE.out⟩⟩, bb⟩
            · have HE := Lib.hid (HNO.out (HB.out.2 (.inl ⟨rfl, rfl⟩)))
              have hkd : decide ((k : Int) < i) = false := decide_eq_false hki
              clear hki HB HNO HGO
              go_wp2_with fail
              go_ret
              exact ⟨⟨false, rfl, ⟨fun x => (by cases x), fun x => absurd x HE.out⟩⟩, bb⟩
          · by_cases hki : (k : Int) < i
            · have HE := Lib.hid (HNO.out (HB.out.2 (.inl ⟨rfl, rfl⟩)))
              have hkd : decide ((k : Int) < i) = true := decide_eq_true hki
              clear hki HB HNO HGO
              go_wp2_with fail
              go_ret
              exact ⟨⟨false, rfl, ⟨fun x => (by cases x), fun x => absurd x HE.out⟩⟩, bb⟩
            · have HE := Lib.hid (HNO.out (HB.out.2 (.inl ⟨rfl, rfl⟩)))
              have hkd : decide ((k : Int) < i) = false := decide_eq_false hki
              clear hki HB HNO HGO
              go_wp2_with fail
              go_ret
              exact ⟨⟨false, rfl, ⟨fun x => (by cases x), fun x => absurd x HE.out⟩⟩, bb⟩
        · cases ub
          · by_cases hki : (k : Int) < i
            · have HE := Lib.hid (HNO.out (HB.out.2 (.inr (.inl ⟨rfl, rfl⟩))))
              have hkd : decide ((k : Int) < i) = true := decide_eq_true hki
              clear hki HB HNO HGO
              go_wp2_with fail
              go_ret
              exact ⟨⟨false, rfl, ⟨fun x => (by cases x), fun x => absurd x HE.out⟩⟩, bb⟩
            · have HE := Lib.hid (HNO.out (HB.out.2 (.inr (.inl ⟨rfl, rfl⟩))))
              have hkd : decide ((k : Int) < i) = false := decide_eq_false hki
              clear hki HB HNO HGO
              go_wp2_with fail
              go_ret
              exact ⟨⟨false, rfl, ⟨fun x => (by cases x), fun x => absurd x HE.out⟩⟩, bb⟩
          · by_cases hki : (k : Int) < i
            · have HN := HGO.out (fun x => by
                have := HB.out.1 x
                simp [hki] at this)
              have hkd : decide ((k : Int) < i) = true := decide_eq_true hki
              clear hki HB HNO HGO
              go_wp2_with fail
              go_roundw
              case rel => exact ⟨k + 1, by omega, by go_num, HN, hb⟩
              case measure => simp [intOf]; omega
            · have HN := HGO.out (fun x => by
                have := HB.out.1 x
                simp [hki] at this)
              have hkd : decide ((k : Int) < i) = false := decide_eq_false hki
              clear hki HB HNO HGO
              go_wp2_with fail
              go_roundw
              case rel => exact ⟨k + 1, by omega, by go_num, HN, hb⟩
              case measure => simp [intOf]; omega
    · obtain rfl : k = q := by omega
      have HE : Hid (Hps.okLz ⟨h, ms, i⟩) := Lib.hid ⟨HV.out, HLM.out.trans HLC.out.symm, by
        have := HI.out
        show 0 ≤ i ∧ i ≤ (ms.length : Int)
        rw [HLM.out]
        exact this, fun x hx => HP.out x (by
        have h1 : x < ms.length := hx
        rw [HLM.out] at h1
        exact h1)⟩
      clear HP
      go_wp2_with fail
      go_ret
      exact ⟨⟨true, rfl, ⟨fun _ => HE.out, fun _ => rfl⟩⟩, bb⟩
end Go.Proofs.Ytakdjiojahlnmaa
