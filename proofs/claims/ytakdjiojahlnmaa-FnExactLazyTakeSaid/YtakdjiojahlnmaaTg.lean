/- What eqLazy and the other helpers of the exact laws of chapter 14 return. No conditions. -/
import Derived.Test.YtakdjiojahlnmaaTb
import Derived.Test.YtakdjiojahlnmaaGd
import Derived.Test.YtakdjiojahlnmaaBo
import Derived.Deep.Cut
namespace Go.Proofs.Ytakdjiojahlnmaa
open Go.RowKit
set_option maxRecDepth 100000

set_option maxHeartbeats 2000000 in
theorem eqLazy_any (A R K A' R' K' : Option Addr) (n c m d p q n' c' m' d' p' q' : Nat) (x y : Hp) (l l' : List Bool) (i i' : Int) (w : World) (hx : HS w w.heap.size A n R m x) (hkx : OS w w.heap.size K p l) (hy : HS w w.heap.size A' n' R' m' y) (hky : OS w w.heap.size K' p' l') (hn : n ≤ 1099511627776) (hm : m ≤ 1099511627776) (hp : p ≤ 1099511627776) (hn' : n' ≤ 1099511627776) (hm' : m' ≤ 1099511627776) (hp' : p' ≤ 1099511627776) (hb : ∀ cl ∈ x.cs, cl.r.length ≤ 1099511627776) (hb' : ∀ cl ∈ y.cs, cl.r.length ≤ 1099511627776) :
    Calls Try.prog 30 #[lzV A n c R m d K p q i, lzV A' n' c' R' m' d' K' p' q' i'] w fun e w' => e = .returned (.bool (decide (x = y ∧ l = l' ∧ i = i'))) ∧ Below w.heap.size w w' := by
  have b2 : Below w.heap.size w ((w.alloc (.cells #[.slice A n c, .slice R m d, .slice K p q, .int .i64 i] 30)).alloc (.cells #[.slice A' n' c', .slice R' m' d', .slice K' p' q', .int .i64 i'] 30)) := ((Below.refl w.heap.size w).alloc (Nat.le_refl _) _).alloc (by simp) _
  have x2 := hx.up b2
  have y2 := hy.up b2
  have q1 := (Rw.new w 30 #[.slice A n c, .slice R m d, .slice K p q, .int .i64 i]).alloc (.cells #[.slice A' n' c', .slice R' m' d', .slice K' p' q', .int .i64 i'] 30)
  have q2 := Rw.new (w.alloc (.cells #[.slice A n c, .slice R m d, .slice K p q, .int .i64 i] 30)) 30 #[.slice A' n' c', .slice R' m' d', .slice K' p' q', .int .i64 i']
  simp only [World.size_alloc] at q2
  have HB := Lib.hid hb
  have HB' := Lib.hid hb'
  obtain ⟨v, hv⟩ : ∃ v, decide (x = y) = v := ⟨_, rfl⟩
  have HV := Lib.hid hv
  have HR := Lib.hid (show decide (x = y ∧ l = l' ∧ i = i') = (v && (decide (l = l') && decide (i = i'))) by rw [← hv, Bool.decide_and, Bool.decide_and])
  obtain ⟨rr, hrr⟩ : ∃ rr, decide (x = y ∧ l = l' ∧ i = i') = rr := ⟨_, rfl⟩
  rw [hrr] at HR ⊢
  clear hb hb' hv hrr
  go_enter Try.func30, Try.ntmps30
  go_wp2_with fail
  refine (eqHeap_any _ _ _ _ _ _ _ _ _ _ _ _ x y _ x2 y2 hn hm hn' hm' HB.out HB'.out).mono ?_
  rw [HV.out]
  rintro e w3 ⟨rfl, b3⟩
  replace q1 := q1.keep b3 q1.lt
  replace q2 := q2.keep b3 q2.lt
  replace b2 := b2.trans (b3.mono b2.size)
  have z1 : w3.cell? ⟨w.heap.size, 2, none⟩ = some (.slice K p q) := q1.cell 2
  have z2 : w3.cell? ⟨w.heap.size + 1, 2, none⟩ = some (.slice K' p' q') := q2.cell 2
  have i1 := hkx.up b2
  have i2 := hky.up b2
  clear x2 y2 b3
  cases v
  · go_wp2_with fail
    go_ret
    exact ⟨by rw [HR.out]; rfl, b2⟩
  obtain ⟨v, hv⟩ : ∃ v, decide (l = l') = v := ⟨_, rfl⟩
  rw [hv] at HR
  have HV2 := Lib.hid hv
  clear hv
  go_wp2_with fail
  refine (eqBoolS_any _ _ _ _ _ _ l l' _ i1 i2 hp hp').mono ?_
  rw [HV2.out]
  rintro e w4 ⟨rfl, b4⟩
  have bb4 := b2.trans (b4.mono b2.size)
  replace q1 := q1.keep b4 q1.lt
  replace q2 := q2.keep b4 q2.lt
  have z3 : w4.cell? ⟨w.heap.size, 3, none⟩ = some (.int .i64 i) := q1.cell 3
  have z4 : w4.cell? ⟨w.heap.size + 1, 3, none⟩ = some (.int .i64 i') := q2.cell 3
  clear z1 z2
  cases v
  · go_wp2_with fail
    go_ret
    exact ⟨by rw [HR.out]; rfl, bb4⟩
  by_cases hi : i = i'
  · subst hi
    have hne : (i != i) = false := by simp
    have HF := Lib.hid (show rr = true by rw [HR.out]; simp)
    go_wp2_with fail
    go_ret
    exact ⟨by rw [HF.out]; rfl, bb4⟩
  · have hne : (i != i') = true := by rw [bne_iff_ne]; exact hi
    have HI := Lib.hid (decide_eq_false hi)
    clear hi
    go_wp2_with fail
    go_ret
    exact ⟨by rw [HR.out, HI.out]; rfl, bb4⟩

set_option maxHeartbeats 2000000 in
theorem markLazy_any (vc vr vk : Value) (rvs : List Value) (h : Hp) (l : List Bool) (i k : Int) (base : Nat) (w : World) (S : OwnLx w base vc vr vk rvs h l) (hk : 0 ≤ k) (hk2 : k ≤ 1000000000) (hn : sizeH h ≤ 1000000000) (hl : l.length ≤ 1000000000) :
    Calls Try.prog 33 #[.agg #[vc, vr, vk, .int .i64 i], .int .i64 k] w fun e w' => e = .returned (.int .i64 (markKH k h + l.length)) ∧ OwnLx w' base vc vr vk rvs (markH k h) (marksO (markKH k h) l.length) ∧ Touched w w' (vc :: vr :: vk :: rvs) := by
  have b1 : Below w.heap.size w (w.alloc (.cells #[vc, vr, vk, .int .i64 i] 30)) := (Below.refl _ _).alloc (Nat.le_refl _) _
  have S1 := S.below b1 (Nat.le_refl _)
  have r1 := Rw.new w 30 #[vc, vr, vk, .int .i64 i]
  have hfar : ∀ v ∈ vc :: vr :: vk :: rvs, v.ownBlock ≠ some w.heap.size := fun v hv e => by have := (S.blocks hv e).2; omega
  have hs1 : h.cs.length + refN h.cs h.cs.length + h.rt.length ≤ 1000000000 := hn
  have hk0 : 0 ≤ markKH k h := by simp only [markKH, mkK]; omega
  have hk1 : markKH k h ≤ 1099511627776 := by simp only [markKH, mkK]; omega
  obtain ⟨q, hq⟩ : ∃ q, markKH k h = q := ⟨_, rfl⟩
  obtain ⟨hm, hhm⟩ : ∃ hm, markH k h = hm := ⟨_, rfl⟩
  rw [hq] at hk0 hk1
  have HQ := Lib.hid hq
  have HM := Lib.hid hhm
  clear hq hhm
  obtain ⟨AA, n, c, RR, m, d, KK, p, q5, rfl, rfl, rfl⟩ := OwnLz.slices ⟨rvs, S⟩
  go_enter Try.func33, Try.ntmps33
  go_wp2_with fail
  refine (markHeap_any _ _ rvs h k base _ S1.heap hk hk2 hn).mono ?_
  rw [HQ.out, HM.out]
  rintro e w2 ⟨rfl, S2, T2⟩
  have T2' : Touched w w2 ((Value.slice AA n c) :: (.slice RR m d) :: (.slice KK p q5) :: rvs) := T2.first.more (fun v hv => by simp only [List.mem_cons] at hv ⊢; rcases hv with e | e | e <;> simp [e])
  have z2 : w2.cell? ⟨w.heap.size, 2, none⟩ = some (.slice KK p q5) := (Rw.touched r1 T2 (fun v hv => hfar v (by simp only [List.mem_cons] at hv ⊢; rcases hv with e | e | e <;> simp [e]))).cell 2
  have hko : OwnO w2 base (.slice KK p q5) l := row_touched S1.mks T2 (fun u hu => by
    rcases S.sep u hu with e | e
    · cases e3 : (Value.slice KK p q5).ownBlock with
      | none => exact .inl rfl
      | some j => exact .inr (by rw [e]; simp)
    · exact .inr (Ne.symm e))
  go_wp2_with fail
  refine (markBoolS_any _ l q base _ hko hk0 hk1 (by omega)).mono ?_
  rintro e w3 ⟨rfl, o3, g3⟩
  have T3 := T2'.grown g3 (by simp)
  have S3 : OwnLx w3 base (.slice AA n c) (.slice RR m d) (.slice KK p q5) rvs hm (marksO q l.length) := ⟨S2.far g3 (fun u hu => S.sep u hu), o3, S.sep⟩
  clear S2 T2 T2' hko o3 g3
  go_wp2_with fail
  go_ret
  exact ⟨by rw [HQ.out]; rfl, by rw [HQ.out, HM.out]; exact S3, T3⟩

set_option maxHeartbeats 2000000 in
theorem heldLazy_any (A R K : Option Addr) (n c m d p q : Nat) (h : Hp) (i k : Int) (w : World) (hs : HS w w.heap.size A n R m (markH k h)) (hki : OS w w.heap.size K p (marksO (markKH k h) p)) (hl : h.cs.length = n) (hr : h.rt.length = m) (hk : 0 ≤ k) (hk2 : k ≤ 1000000000) (hn : sizeH h ≤ 1000000000) (hp : p ≤ 1000000000) :
    Calls Try.prog 34 #[lzV A n c R m d K p q i, .int .i64 k] w fun e w' => e = .returned (.int .i64 (markKH k h + p)) ∧ Below w.heap.size w w' := by
  have b1 : Below w.heap.size w (w.alloc (.cells #[.slice A n c, .slice R m d, .slice K p q, .int .i64 i] 30)) := (Below.refl _ _).alloc (Nat.le_refl _) _
  have s1 := hs.up b1
  have q1 := Rw.new w 30 #[.slice A n c, .slice R m d, .slice K p q, .int .i64 i]
  have hs1 : h.cs.length + refN h.cs h.cs.length + h.rt.length ≤ 1000000000 := hn
  have hk0 : 0 ≤ markKH k h := by simp only [markKH, mkK]; omega
  have hk1 : markKH k h ≤ 1099511627776 := by simp only [markKH, mkK]; omega
  obtain ⟨y, hy⟩ : ∃ y, markKH k h = y := ⟨_, rfl⟩
  rw [hy] at hk0 hk1 hki
  have HY := Lib.hid hy
  have hy1 : decide (y < 0) = false := decide_eq_false (by omega)
  have hy2 : decide (y + (p : Int) < 0) = false := decide_eq_false (by omega)
  clear hy
  go_enter Try.func34, Try.ntmps34
  go_wp2_with fail
  refine (heldHeap_any _ _ _ _ _ _ h k _ s1 hl hr hk hk2 hn).mono ?_
  rw [HY.out]
  rintro e w2 ⟨rfl, b2⟩
  replace q1 := q1.keep b2 q1.lt
  replace b1 := b1.trans (b2.mono b1.size)
  have z2 : w2.cell? ⟨w.heap.size, 2, none⟩ = some (.slice K p q) := q1.cell 2
  have i2 := hki.up b1
  clear s1 b2
  go_wp2_with fail
  refine (heldBoolS_any _ _ _ _ _ i2 hk0 hk1 (by omega)).mono ?_
  rintro e w3 ⟨rfl, rfl⟩
  go_wp2_with fail
  go_ret
  exact ⟨by rw [HY.out]; rfl, b1⟩

theorem szBoolS_any (A : Option Addr) (n c : Nat) (l : Int) (w : World) (h0 : 0 ≤ l) (h1 : l ≤ 1099511627776) (hn : n ≤ 9223372036854775807) :
    Calls Try.prog 73 #[.slice A n c, .int .i64 l] w fun e w' => e = .returned (.int .i64 (if n ≤ l then l - n else -1)) ∧ w = w' := by
  by_cases h : (n : Int) ≤ l
  · have h' : decide (l - (n : Int) < 0) = false := decide_eq_false (by omega)
    rw [if_pos h]
    go_enter Try.func73, Try.ntmps73
    go_wp2
    go_ret
    exact ⟨rfl, rfl⟩
  · have h' : l - (n : Int) < 0 := by omega
    rw [if_neg h]
    go_enter Try.func73, Try.ntmps73
    go_wp2
    go_ret
    exact ⟨rfl, rfl⟩
def sizeZ (h : Hp) (l : List Bool) : Nat := sizeH h + l.length
set_option maxHeartbeats 2000000 in
theorem szLazy_any (A R K : Option Addr) (n c m d p q : Nat) (h : Hp) (l : List Bool) (i z : Int) (w : World) (hs : HS w w.heap.size A n R m h) (hk : OS w w.heap.size K p l) (h0 : 0 ≤ z) (h1 : z ≤ 1099511627776) (hn : n ≤ 9223372036854775807) (hm : m ≤ 9223372036854775807) (hp : p ≤ 9223372036854775807) (hb : ∀ cl ∈ h.cs, cl.r.length ≤ 9223372036854775807) :
    Calls Try.prog 35 #[lzV A n c R m d K p q i, .int .i64 z] w fun e w' => e = .returned (.int .i64 (leftOf z (sizeZ h l))) ∧ Below w.heap.size w w' := by
  have hkl := hk.1
  have b1 : Below w.heap.size w (w.alloc (.cells #[.slice A n c, .slice R m d, .slice K p q, .int .i64 i] 57)) := (Below.refl _ _).alloc (Nat.le_refl _) _
  have s1 := hs.up b1
  have q1 := Rw.new w 57 #[.slice A n c, .slice R m d, .slice K p q, .int .i64 i]
  have HB := Lib.hid hb
  clear hb
  go_enter Try.func35, Try.ntmps35
  go_wp2_with fail
  refine (szHeap_any _ _ _ _ _ _ h _ _ s1 h0 h1 hn hm HB.out).mono ?_
  by_cases hz : (sizeH h : Int) ≤ z
  · have e1 : leftOf z (sizeH h) = z - sizeH h := by rw [leftOf, if_pos hz]
    rw [e1]
    obtain ⟨y, hy⟩ : ∃ y, z - (sizeH h : Int) = y := ⟨_, rfl⟩
    rw [hy]
    have hy0 : 0 ≤ y := by omega
    have hy1 : decide (y < 0) = false := decide_eq_false (by omega)
    have hy2 : y ≤ 1099511627776 := by omega
    rintro e w2 ⟨rfl, b2⟩
    replace q1 := q1.keep b2 q1.lt
    replace b1 := b1.trans (b2.mono b1.size)
    have z2 : w2.cell? ⟨w.heap.size, 2, none⟩ = some (.slice K p q) := q1.cell 2
    have HR := Lib.hid (show leftOf z (sizeZ h l) = if (p : Int) ≤ y then y - p else -1 by
      unfold leftOf sizeZ
      by_cases hc : (p : Int) ≤ y
      · rw [if_pos (by omega), if_pos hc]; omega
      · rw [if_neg (by omega), if_neg hc])
    clear e1 hy hz b2
    go_wp2_with fail
    refine (szBoolS_any _ _ _ _ _ hy0 hy2 hp).mono ?_
    rw [← HR.out]
    obtain ⟨u, hu⟩ : ∃ u, leftOf z (sizeZ h l) = u := ⟨_, rfl⟩
    rw [hu] at HR ⊢
    have HU := Lib.hid hu
    rintro e w3 ⟨rfl, rfl⟩
    by_cases hu0 : u < 0
    · have hu2 : u = -1 := by
        have := HR.out
        split at this <;> omega
      have hu1 : decide (u < 0) = true := decide_eq_true hu0
      clear hu
      subst hu2
      go_wp2_with fail
      go_ret
      exact ⟨by rw [HU.out]; rfl, b1⟩
    · have hu1 : decide (u < 0) = false := decide_eq_false hu0
      clear hu hu0
      go_wp2_with fail
      go_ret
      exact ⟨by rw [HU.out]; rfl, b1⟩
  · have e1 : leftOf z (sizeH h) = -1 := by rw [leftOf, if_neg hz]
    rw [e1]
    have HR := Lib.hid (show leftOf z (sizeZ h l) = -1 by
      unfold leftOf sizeZ
      rw [if_neg (by omega)])
    rintro e w2 ⟨rfl, b2⟩
    replace b1 := b1.trans (b2.mono b1.size)
    clear e1 hz
    go_wp2_with fail
    go_ret
    exact ⟨by rw [HR.out]; rfl, b1⟩

end Go.Proofs.Ytakdjiojahlnmaa
