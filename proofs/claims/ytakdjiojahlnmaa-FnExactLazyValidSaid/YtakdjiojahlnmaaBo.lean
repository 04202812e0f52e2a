/- What the helpers of the exact laws return at slices of bools: toBoolS, eqBoolS, markBoolS, heldBoolS; how a slice of bools that came in lies in memory. No conditions. -/
import Derived.Test.YtakdjiojahlnmaaGb
import Derived.Test.YtakdjiojahlnmaaPost
namespace Go.Proofs.Ytakdjiojahlnmaa
open Go.ChangeShapes Go.WideShapes Go.ChangeAt Go.RowKit Go.Deep

theorem set_takeO {xs : List Bool} {n k : Nat} {y : Bool} (hl : xs.length = n) (hk : k < n) (hy : xs[k]? = some y) : (xs.take k ++ List.replicate (n - k) false).set k y = xs.take (k + 1) ++ List.replicate (n - (k + 1)) false := by
  have h1 : (xs.take k).length = k := by rw [List.length_take]; omega
  rw [List.set_append_right _ _ (by omega), h1, Nat.sub_self, show n - k = (n - (k + 1)) + 1 by omega, List.replicate_succ, List.set_cons_zero, List.take_add_one, hy]
  simp

set_option maxHeartbeats 1000000 in
theorem toBoolS_any (A : Option Addr) (n c : Nat) (xs : List Bool) (w : World) (h : OS w w.heap.size A n xs) (hn : n ≤ 1099511627776) :
    Calls Try.prog 74 #[.slice A n c] w fun e w' => e = .returned (.slice (some ⟨w.heap.size, 0, none⟩) n n) ∧ OwnO w' w.heap.size (.slice (some ⟨w.heap.size, 0, none⟩) n n) xs ∧ Below w.heap.size w w' := by
  have hl := h.1
  have hmk := makeO w n hn
  have o2 := own_madeO w n hn
  have b2 : Below w.heap.size w (w.alloc (.cells (Array.replicate n (.bool false)) 4)) := (Below.refl _ _).alloc (Nat.le_refl _) _
  obtain ⟨w2, hw2⟩ : ∃ w2, w.alloc (.cells (Array.replicate n (.bool false)) 4) = w2 := ⟨_, rfl⟩
  rw [hw2] at hmk o2 b2
  have o2 : OwnO w2 w.heap.size (.slice (some ⟨w.heap.size, 0, none⟩) n n) (xs.take 0 ++ List.replicate (n - 0) false) := by simpa using o2
  clear hw2
  go_enter Try.func74, Try.ntmps74
  go_wp2
  clear hmk
  go_loopw [4] (fun i wr => ∃ k : Nat, k ≤ n ∧ i = .int .i64 k ∧ OwnO wr w.heap.size (.slice (some ⟨w.heap.size, 0, none⟩) n n) (xs.take k ++ List.replicate (n - k) false) ∧ Below w.heap.size w wr) (fun i _ => n - (intOf i).toNat)
  case atStart => exact ⟨0, Nat.zero_le _, rfl, o2, b2⟩
  case round =>
    clear o2 b2
    obtain ⟨k, hk, rfl, ho, hb⟩ := hrel
    have hlen : (xs.take k ++ List.replicate (n - k) false).length = n := by simp; omega
    by_cases hlt : k < n
    · obtain ⟨g', o', x, e', _, _, c1⟩ := ho.reads.at_ (k := k) (by omega)
      injection e' with e'
      injection e' with e1 e2
      subst e1 e2
      rw [Nat.zero_add] at c1
      obtain ⟨g, o, y, rfl, hg, hy, c2⟩ := (h.below hb).at_ hlt
      have fz : wr.frozen? ⟨w.heap.size, k, none⟩ = false := ho.frozen hlen k
      have t1 : (k : Int) < n := by omega
      have on := OwnO.cast (set_takeO hl hlt hy) (ho.put' (j := k) hlen y)
      have bn := hb.setCell (p := ⟨w.heap.size, k, none⟩) (Nat.le_refl _) (.bool y)
      clear ho hlen hy
      go_wp2_with fail
      go_roundw
      case rel => exact ⟨k + 1, by omega, by go_num, on, bn⟩
      case measure => simp [intOf]; omega
    · obtain rfl : k = n := by omega
      rw [List.take_of_length_le (by omega), Nat.sub_self] at ho
      have ho : OwnO wr w.heap.size (.slice (some ⟨w.heap.size, 0, none⟩) k k) xs := by simpa using ho
      clear hlen
      go_wp2_with fail
      go_ret
      exact ⟨rfl, ho, hb⟩

theorem eqBoolS_any (A B : Option Addr) (n m c d : Nat) (xs ys : List Bool) (w : World) (h : OS w w.heap.size A n xs) (h' : OS w w.heap.size B m ys) (hn : n ≤ 1099511627776) (hm : m ≤ 1099511627776) :
    Calls Try.prog 65 #[.slice A n c, .slice B m d] w fun e w' => e = .returned (.bool (decide (xs = ys))) ∧ Below w.heap.size w w' := by
  have HL := Lib.hid h.1
  have HL' := Lib.hid h'.1
  by_cases hnm : n = m
  · subst hnm
    go_enter Try.func65, Try.ntmps65
    go_wp2
    go_loopw [5] (fun i wr => ∃ (k : Nat), k ≤ n ∧ i = .int .i64 k ∧ Hid (xs.take k = ys.take k) ∧ Below w.heap.size w wr) (fun i _ => n - (intOf i).toNat)
    case atStart => exact ⟨0, Nat.zero_le _, rfl, by simp [Hid], Below.refl _ _⟩
    case round =>
      obtain ⟨k, hk, rfl, hpre, hb⟩ := hrel
      by_cases hlt : k < n
      · obtain ⟨g, o, x, rfl, hg, hx, c1⟩ := (h.below hb).at_ hlt
        obtain ⟨g', o', y, rfl, hg', hx', c1'⟩ := (h'.below hb).at_ hlt
        have HX := Lib.hid hx
        have HX' := Lib.hid hx'
        have hlt' : (k : Int) < n := by omega
        clear hx hx'
        by_cases hxy : x = y
        · subst hxy
          go_wp2_with fail
          go_quiet (fail)
          go_wp2
          go_roundw
          case rel => exact ⟨k + 1, by omega, by go_num, Lib.hid (take_eq_succO hpre.out HX.out HX'.out), below_drewN hb _⟩
          case measure => simp [intOf]; omega
        · have hne : (x == y) = false := by rw [beq_eq_false_iff_ne]; exact hxy
          have hne2 : (x != y) = true := by rw [bne_iff_ne]; exact hxy
          have HNE := Lib.hid (show xs ≠ ys from fun e => hxy (by
            have a := HX.out
            have b := HX'.out
            rw [e, b] at a
            exact (Option.some.inj a).symm))
          clear hxy
          go_wp2_with fail
          go_quiet (fail)
          go_wp2
          go_ret
          exact ⟨ret_bool (decide_eq_false HNE.out).symm, below_drewN hb _⟩
      · have hkn : k = n := by omega
        have HK := Lib.hid hkn
        clear hkn
        go_wp2
        go_ret
        refine ⟨ret_bool ?_, hb⟩
        have hp := hpre.out
        rw [HK.out, List.take_of_length_le (by rw [HL.out]; omega), List.take_of_length_le (by rw [HL'.out]; omega)] at hp
        simp [hp]
  · have hne : ((n : Int) != m) = true := by rw [bne_iff_ne]; omega
    have HN := Lib.hid hnm
    clear hnm
    go_enter Try.func65, Try.ntmps65
    go_wp2
    go_ret
    refine ⟨ret_bool ?_, Below.refl _ _⟩
    simp
    rintro rfl
    exact HN.out (HL.out.symm.trans HL'.out)

theorem sep_swapO {v0 v1 : Value} (h : v0.ownBlock = none ∨ v0.ownBlock ≠ v1.ownBlock) : v1.ownBlock = none ∨ v1.ownBlock ≠ v0.ownBlock := by
  rcases h with h | h
  · cases e : v1.ownBlock with
    | none => exact .inl rfl
    | some k => right; rw [h]; simp
  · exact .inr fun e => h e.symm

/-- the marks that are laid into a slice of bools -/
def marksO (k : Int) (n : Nat) : List Bool := (List.range n).map fun i => ((k + (i : Nat)) % 3 == 0)
theorem marksO_len (k : Int) (n : Nat) : (marksO k n).length = n := by simp [marksO]
theorem marksO_at (k : Int) {n i : Nat} (h : i < n) : (marksO k n)[i]? = some ((k + i) % 3 == 0) := by
  simp [marksO, h]
theorem set_marksO (k : Int) (xs : List Bool) {i : Nat} (h : i < xs.length) : (marksO k i ++ xs.drop i).set i ((k + i) % 3 == 0) = marksO k (i + 1) ++ xs.drop (i + 1) := by
  rw [List.set_append_right _ _ (by rw [marksO_len]; omega), marksO_len, Nat.sub_self]
  rw [List.drop_eq_getElem_cons h, List.set_cons_zero]
  simp [marksO, List.range_succ]

set_option maxHeartbeats 1000000 in
theorem markBoolS_any (v : Value) (xs : List Bool) (k : Int) (base : Nat) (w : World) (h : OwnO w base v xs) (hk : 0 ≤ k) (hk2 : k ≤ 1099511627776) (hn : xs.length ≤ 1099511627776) :
    Calls Try.prog 70 #[v, .int .i64 k] w fun e w' => e = .returned (.int .i64 (k + xs.length)) ∧ OwnO w' base v (marksO k xs.length) ∧ w.grownBy w' v.ownBlock := by
  obtain ⟨A, c, rfl, hA⟩ := h.form
  obtain ⟨n, hn'⟩ : ∃ n, xs.length = n := ⟨_, rfl⟩
  rw [hn'] at h hn hA ⊢
  go_enter Try.func70, Try.ntmps70
  go_wp2
  go_loopw [1, 5] (fun q a wr => ∃ i : Nat, i ≤ n ∧ a = .int .i64 i ∧ q = .int .i64 (k + i) ∧ OwnO wr base (.slice A n c) (marksO k i ++ xs.drop i) ∧ w.grownBy wr (Value.slice A n c).ownBlock) (fun _ a _ => n - (intOf a).toNat)
  case atStart => exact ⟨0, Nat.zero_le _, rfl, by simp, by simpa [marksO] using h, World.grownBy.refl _ _⟩
  case round =>
    clear h
    obtain ⟨i, hi, rfl, rfl, ho, hg⟩ := hrel
    have hl : (marksO k i ++ xs.drop i).length = n := by simp [marksO]; omega
    by_cases hlt : i < n
    · obtain ⟨g, rfl, hbg, hgl⟩ := hA (by omega)
      obtain ⟨g', o', x, e', _, _, c1⟩ := ho.reads.at_ (k := i) (by omega)
      injection e' with e'
      injection e' with e1 e2
      subst e1 e2
      rw [Nat.zero_add] at c1
      have fz : wr.frozen? ⟨g, i, none⟩ = false := ho.frozen hl i
      have t1 : (i : Int) < n := by omega
      have on := OwnO.cast (set_marksO k xs (show i < xs.length by omega)) (ho.put' (j := i) hl ((k + i) % 3 == 0))
      have gn := only_put hg i (.bool ((k + i) % 3 == 0))
      clear ho hl hA
      go_wp2
      go_roundw
      case rel => exact ⟨i + 1, by omega, by go_num, int_eq (by omega), on, gn⟩
      case measure => simp [intOf]; omega
    · obtain rfl : i = n := by omega
      have ho : OwnO wr base (.slice A i c) (marksO k i) := by
        rw [List.drop_of_length_le (by omega), List.append_nil] at ho
        exact ho
      clear hl hA
      go_wp2
      go_ret
      exact ⟨rfl, ho, hg⟩
theorem heldBoolS_any (A : Option Addr) (n c : Nat) (k : Int) (w : World) (h : OS w w.heap.size A n (marksO k n)) (hk : 0 ≤ k) (hk2 : k ≤ 1099511627776) (hn : n ≤ 1099511627776) :
    Calls Try.prog 72 #[.slice A n c, .int .i64 k] w fun e w' => e = .returned (.int .i64 (k + n)) ∧ w = w' := by
  go_enter Try.func72, Try.ntmps72
  go_wp2
  go_loop [1, 5] (fun q a => ∃ i : Nat, i ≤ n ∧ a = .int .i64 i ∧ q = .int .i64 (k + i)) (fun _ a => n - (intOf a).toNat)
  case atStart => exact ⟨0, Nat.zero_le _, rfl, by simp⟩
  case round =>
    obtain ⟨i, hi, rfl, rfl⟩ := hrel
    by_cases hlt : i < n
    · obtain ⟨g, o, x, rfl, hg, hx, c1⟩ := h.at_ hlt
      rw [marksO_at k hlt] at hx
      injection hx with hx
      subst hx
      go_wp2
      go_round
      case rel => exact ⟨i + 1, by omega, by go_num, int_eq (by omega)⟩
      case measure => simp [intOf]; omega
    · have hin : i = n := by omega
      have HI := Lib.hid hin
      clear hin
      go_wp2
      go_ret
      exact ⟨by rw [← HI.out]; rfl, rfl⟩
section
variable {H : Type} {enc : TypeId × Value → H} {P : Program} {W W' : World}
/-- a slice of bools that came in -/
theorem open_bools {t e : TypeId} {r : Reach} {b0 : Nat} {v : Value} {d : DataW H} {ps : List MemPlace} (ht : P.underlying t = some (.slice e)) (he : P.underlying e = some .bool) (ce : P.cellsOf e = 1)
    (hval : Value.okWide P W r b0 t v) (h : DataW.Trod enc P W 0 (fun _ => true) true t v d ps) (hlt : ∀ x ∈ ps, x.block < W.heap.size) :
    ∃ (A : Option Addr) (n c : Nat) (xs : List Bool), v = .slice A n c ∧ n ≤ c ∧ n ≤ 9223372036854775807 ∧ OS W W.heap.size A n xs := by
  obtain ⟨A, n, c, rfl⟩ := okWide_slice ht hval
  obtain ⟨fuel, hf⟩ := h
  rcases open_slice ht hf with ⟨h0, _⟩ | ⟨a, len, cap, m, n', D, Pl, hcs, hb, hl, hm, hmm, hx, hi⟩
  · simp [Value.cells] at h0
    obtain ⟨rfl, rfl, rfl⟩ := h0
    exact ⟨none, 0, 0, [], rfl, by omega, by omega, OS.none_ _ _ _⟩
  · simp [Value.cells] at hcs
    obtain ⟨rfl, rfl, rfl⟩ := hcs
    simp only [if_true] at hmm
    subst hmm
    have each : ∀ i, i < n → ∃ x : Bool, W.cell? (a.add i) = some (.bool x) := by
      intro i hin
      obtain ⟨cs', h1, h2⟩ := hi i (by omega)
      rw [ce] at h1
      obtain ⟨_, hlen, hcell⟩ := World.cells?_some h1
      obtain ⟨u, e2, _⟩ := DataW.trod_bool he h2
      match cs', hlen with
      | [v0], _ =>
        simp at e2
        subst e2
        have q0 := hcell 0 (by omega)
        rw [add_add] at q0
        exact ⟨u, by simpa using q0⟩
    obtain ⟨F, hF⟩ := choose_lt each
    refine ⟨some a, n, _, (List.range n).map F, rfl, hl, by unfold maxLen at hm; omega, by simp, ?_⟩
    intro hn
    have h0 := hF 0 hn
    simp [Addr.add] at h0
    have ha := addr_of_cell h0
    have hblt : a.block < W.heap.size := by
      apply hlt (.cell a.block a.off)
      have hps := congrArg Prod.snd hx
      simp only [] at hps
      rw [hps, ce]
      apply List.mem_append_left
      rw [ha]
      simp [MemPlace.row]
      omega
    refine ⟨a.block, a.off, by rw [← ha], hblt, fun k x hx => ?_⟩
    rcases Nat.lt_or_ge k n with hk | hk
    · simp only [List.getElem?_map] at hx
      rw [List.getElem?_range hk] at hx
      simp at hx
      subst hx
      have q := hF k hk
      rw [ha, add_none] at q
      exact q
    · rw [List.getElem?_eq_none (by simpa using hk)] at hx
      cases hx
end
end Go.Proofs.Ytakdjiojahlnmaa
