/- What TakeBlock returns: for every slice of blocks and all numbers. -/
import Derived.Test.YtkejbggffbkdaaaWo
import Derived.StillTailTactics
namespace Go.Proofs.Ytkejbggffbkdaaa
open Go.RowKit

theorem canTake_size {xs : List Bl} {t num size : Int} (hv : Bks.validB xs t = true) (h : ¬ (1 ≤ size ∧ size ≤ 256)) : Bks.canTake xs num size = false := by
  unfold Bks.canTake
  cases hx : xs[num.toNat]? with
  | none => simp
  | some b =>
    have := Bks.valid_at hv hx
    cases hd : (decide (0 ≤ num) && (!b.u && decide (1 ≤ size) && decide (size ≤ b.z)))
    · rfl
    · simp at hd
      exact absurd ⟨hd.2.1.2, by omega⟩ h
theorem canTake_isB {xs : List Bl} {num size : Int} (h : isB xs num false = false) : Bks.canTake xs num size = false := by
  unfold isB at h
  unfold Bks.canTake
  cases hx : xs[num.toNat]? with
  | none => simp
  | some b =>
    rw [hx] at h
    cases hd : decide (0 ≤ num)
    · simp
    · rw [hd] at h
      simp at h
      simp [h]
theorem takeB_not {xs : List Bl} {num size : Int} (h : Bks.canTake xs num size = false) : Bks.takeB xs num size = xs := by
  rw [Bks.takeB, h]
  simp
theorem isB_yes {xs : List Bl} {num : Int} {u : Bool} (h : isB xs num u = true) : ∃ (k : Nat) (x : Bl), num = k ∧ k < xs.length ∧ xs[k]? = some x ∧ x.u = u := by
  unfold isB at h
  cases hx : xs[num.toNat]? with
  | none => rw [hx] at h; simp at h
  | some b =>
    rw [hx] at h
    simp at h
    exact ⟨num.toNat, b, by omega, (List.getElem?_eq_some_iff.1 hx).1, hx, h.2⟩

theorem GaveB.two {w : World} {xs : List Bl} {v : Value} {w' : World} (h : OwnB w' w.heap.size v xs ∧ Below w.heap.size w w') (ys : List Bl) (ok ok' : Bool) (e1 : xs = ys) (e2 : ok = ok') : GaveB2 w ys ok' (.returned (.tuple #[v, .bool ok])) w' := by
  subst e1 e2
  exact ⟨v, rfl, h.1, h.2⟩

/-- three parts laid in a row of their own -/
theorem parts3 {W : World} (p0 p1 p2 : Part) (t : TypeId) (h0 : BS W W.heap.size p0.a p0.n p0.xs) (h1 : BS W W.heap.size p1.a p1.n p1.xs) (h2 : BS W W.heap.size p2.a p2.n p2.xs) :
    Parts (W.alloc (.cells #[.slice p0.a p0.n p0.c, .slice p1.a p1.n p1.c, .slice p2.a p2.n p2.c] t)) (W.alloc (.cells #[.slice p0.a p0.n p0.c, .slice p1.a p1.n p1.c, .slice p2.a p2.n p2.c] t)).heap.size W.heap.size [p0, p1, p2] := by
  have hw : Below W.heap.size W (W.alloc (.cells #[.slice p0.a p0.n p0.c, .slice p1.a p1.n p1.c, .slice p2.a p2.n p2.c] t)) := (Below.refl _ _).alloc (Nat.le_refl _) _
  have hr := Rw.new W t #[.slice p0.a p0.n p0.c, .slice p1.a p1.n p1.c, .slice p2.a p2.n p2.c]
  intro k p hp
  match k, hp with
  | 0, hp =>
    simp at hp
    subst hp
    exact ⟨hr.cell 0, h0.up hw⟩
  | 1, hp =>
    simp at hp
    subst hp
    exact ⟨hr.cell 1, h1.up hw⟩
  | 2, hp =>
    simp at hp
    subst hp
    exact ⟨hr.cell 2, h2.up hw⟩
  | k + 3, hp => simp at hp

/-- slices.Concat at three slices -/
theorem concat3 (W : World) (t : TypeId) (A0 A1 A2 : Option Addr) (n0 n1 n2 c0 c1 c2 : Nat) (X0 X1 X2 : List Bl) (h0 : BS W W.heap.size A0 n0 X0) (h1 : BS W W.heap.size A1 n1 X1) (h2 : BS W W.heap.size A2 n2 X2) (hb : n0 + n1 + n2 ≤ 1099511627776) :
    Calls Try.prog 51 #[.slice (some ⟨W.heap.size, 0, none⟩) 3 3] (W.alloc (.cells #[.slice A0 n0 c0, .slice A1 n1 c1, .slice A2 n2 c2] t)) (GaveB W (X0 ++ X1 ++ X2)) := by
  refine (concat_any _ _ _ [⟨A0, n0, c0, X0⟩, ⟨A1, n1, c1, X1⟩, ⟨A2, n2, c2, X2⟩] _ rfl (parts3 ⟨A0, n0, c0, X0⟩ ⟨A1, n1, c1, X1⟩ ⟨A2, n2, c2, X2⟩ t h0 h1 h2) (by simp) ?_ (by simp)).mono ?_
  · have e0 := h0.1
    have e1 := h1.1
    have e2 := h2.1
    simp [catP]
    omega
  · rintro e w' ⟨v, rfl, ho, hb⟩
    exact ⟨v, rfl, (OwnB.cast (by simp [catP]) ho).base (by simp), ((Below.refl W.heap.size W).alloc (Nat.le_refl _) _).trans (hb.mono (by simp))⟩

/-- the parts of a taken block, laid beside each other -/
theorem take_ready (w1 : World) (base : Nat) (a b size : Int) (u : Bool) (o : Obj) (hb : base ≤ w1.heap.size) (h1 : 0 ≤ a) (h2 : a ≤ 256) (h3 : 0 ≤ b) (h4 : b ≤ 256) (h5 : 0 ≤ size) (h6 : size ≤ 256) :
    OwnB (((w1.alloc o).alloc (.cells #[.int .i64 a, .int .i64 size, .bool u] 32)).alloc (.cells #[.int .i64 (a + size), .int .i64 (b - size), .bool false] 32)) base (.slice (some ⟨w1.heap.size + 1, 0, none⟩) 1 1) [⟨a, size, u⟩] ∧
    BS (((w1.alloc o).alloc (.cells #[.int .i64 a, .int .i64 size, .bool u] 32)).alloc (.cells #[.int .i64 (a + size), .int .i64 (b - size), .bool false] 32)) (w1.heap.size + 1 + 1 + 1) (some ⟨w1.heap.size + 1 + 1, 0, none⟩) 1 [⟨a + size, b - size, false⟩] ∧
    Below w1.heap.size w1 (((w1.alloc o).alloc (.cells #[.int .i64 a, .int .i64 size, .bool u] 32)).alloc (.cells #[.int .i64 (a + size), .int .i64 (b - size), .bool false] 32)) := by
  refine ⟨?_, ?_, (((Below.refl _ _).alloc (Nat.le_refl _) _).alloc (by simp) _).alloc (by simp; omega) _⟩
  · have := own_one (w1.alloc o) a size u base (by simp; omega)
    have h2 : OwnB _ _ _ _ := World.ownsRow.alloc this (.cells #[.int .i64 (a + size), .int .i64 (b - size), .bool false] 32)
    simpa using h2
  · have := (own_one ((w1.alloc o).alloc (.cells #[.int .i64 a, .int .i64 size, .bool u] 32)) (a + size) (b - size) false 0 (Nat.zero_le _)).reads (allI_one (by omega) (by omega) (by omega) (by omega))
    simpa using this

theorem heap_alloc1 (w : World) (o : Obj) : (w.alloc o).heap.size = w.heap.size + 1 := by simp

set_option maxHeartbeats 2000000 in
theorem takeBlock_any (A : Option Addr) (n c : Nat) (xs : List Bl) (t num size : Int) (w : World) (h : BS w w.heap.size A n xs) (hn : n ≤ 1099511627776) (hc : n ≤ c) :
    Calls Try.prog 49 #[.slice A n c, .int .i64 t, .int .i64 num, .int .i64 size] w (GaveB2 w (if Bks.validB xs t = true then Bks.takeB xs num size else []) (Bks.validB xs t && Bks.canTake xs num size)) := by
  cases hv : Bks.validB xs t
  · have HV := Lib.hid hv
    clear hv
    go_enter Try.func49, Try.ntmps49
    go_wp2_with fail
    refine (blocksValid_any _ _ _ xs _ _ h hn).mono ?_
    rw [HV.out]
    rintro e w1 ⟨rfl, b1⟩
    go_wp2_with fail
    go_ret2
    exact ⟨_, rfl, World.ownsRow_nil _ _ _ _, b1⟩
  · have HV := Lib.hid hv
    have hl := Bks.valid_len hv
    have hlen := h.1
    rw [if_pos rfl, Bool.true_and]
    by_cases hsz : 1 ≤ size ∧ size ≤ 256
    · have hd : (decide ((1 : Int) ≤ size) && decide (size ≤ 256)) = true := by simpa using hsz
      cases hi : isB xs num false
      · have HI := Lib.hid hi
        have HC := Lib.hid (canTake_isB (size := size) hi)
        have HT := Lib.hid (takeB_not HC.out)
        clear hv hl hlen hi hsz
        go_enter Try.func49, Try.ntmps49
        go_wp2_with fail
        refine (blocksValid_any _ _ _ xs _ _ h hn).mono ?_
        rw [HV.out]
        rintro e w1 ⟨rfl, b1⟩
        go_wp2_with (first
          | (go_at_call 35; refine (wordsValid_any _ _).mono ?_; rw [hd]; rintro e w' ⟨rfl, rfl⟩)
          | (go_at_call 50; refine (blockIs_any _ _ _ xs _ _ _ (h.up b1)).mono ?_; rw [HI.out]; rintro e w' ⟨rfl, rfl⟩)
          | fail)
        refine (clone_any _ _ _ xs _ (h.up b1) hn).mono ?_
        rintro e w2 ⟨v2, rfl, o2, b2⟩
        go_wp2_with fail
        go_ret2
        exact GaveB.two ⟨o2.base b1.size, b1.trans (b2.mono b1.size)⟩ _ _ _ HT.out.symm HC.out.symm
      · obtain ⟨k, x, rfl, hk, hx, hu⟩ := isB_yes hi
        rw [hlen] at hk
        have HI := Lib.hid hi
        obtain ⟨z0, z1, z2, z3, z4, z5, z6⟩ := Bks.valid_at hv hx
        have y0 : 0 ≤ x.s := by omega
        have y1 : x.s ≤ 256 := by omega
        have hcan : Bks.canTake xs k size = decide (size ≤ x.z) := by simp [Bks.canTake, hx, hu, hsz.1]
        have HX := Lib.hid hx
        have HC := Lib.hid hcan
        have HU := Lib.hid hu
        clear hv hi hx hcan z0 z5 hu
        obtain ⟨s1, s2⟩ := hsz
        by_cases hz : x.z < size
        · have HF := Lib.hid (show Bks.canTake xs k size = false by rw [HC.out]; simpa using hz)
          have HT := Lib.hid (takeB_not HF.out)
          clear hl hlen
          go_enter Try.func49, Try.ntmps49
          go_wp2_with fail
          refine (blocksValid_any _ _ _ xs _ _ h hn).mono ?_
          rw [HV.out]
          rintro e w1 ⟨rfl, b1⟩
          obtain ⟨g, o, x', rfl, hg, hx', _, _, c1, c2, c3⟩ := (h.below b1).at_ hk
          have hxe : x' = x := Option.some.inj (hx'.symm.trans HX.out)
          subst hxe
          clear hx' c1 c3
          go_wp2_with (first
            | (go_at_call 35; refine (wordsValid_any _ _).mono ?_; rw [hd]; rintro e w' ⟨rfl, rfl⟩)
            | (go_at_call 50; refine (blockIs_any _ _ _ xs _ _ _ (h.up b1)).mono ?_; rw [HI.out]; rintro e w' ⟨rfl, rfl⟩)
            | fail)
          refine (clone_any _ _ _ xs _ (h.up b1) hn).mono ?_
          rintro e w2 ⟨v2, rfl, o2, b2⟩
          go_wp2_with fail
          go_ret2
          exact GaveB.two ⟨o2.base b1.size, b1.trans (b2.mono b1.size)⟩ _ _ _ HT.out.symm HF.out.symm
        · have HF := Lib.hid (show Bks.canTake xs k size = true by rw [HC.out]; simp; omega)
          have hT5 := Lib.hid (fun hh => taken_yes HX.out HF.out (h := hh))
          have hT4 := Lib.hid (fun hh => taken_no HX.out HF.out (h := hh))
          have hlen5 : xs.length ≤ 256 := hl.2.1
          have hn5 : n ≤ 256 := by omega
          have HL := Lib.hid hlen
          clear hl hlen
          go_enter Try.func49, Try.ntmps49
          go_wp2_with fail
          refine (blocksValid_any _ _ _ xs _ _ h hn).mono ?_
          rw [HV.out]
          rintro e w1 ⟨rfl, b1⟩
          obtain ⟨g, o, x', rfl, hg, hx', _, _, c1, c2, c3⟩ := (h.below b1).at_ hk
          have hxe : x' = x := Option.some.inj (hx'.symm.trans HX.out)
          subst hxe
          rw [HU.out] at c3
          have hs1 := b1.size
          have hg1 : g < w1.heap.size := by omega
          clear hx'
          by_cases hlt : size < x'.z
          · have HT := Lib.hid (hT5.out hlt)
            clear hT5 hT4
            obtain ⟨r1, r2, r3⟩ := take_ready w1 w.heap.size x'.s x'.z size true (.cells #[.int .i64 x'.s, .int .i64 x'.z, .bool false] 32) hs1 y0 y1 (by omega) z2 (by omega) s2
            go_wp2_with (first
              | (go_at_call 35; refine (wordsValid_any _ _).mono ?_; rw [hd]; rintro e w' ⟨rfl, rfl⟩)
              | (go_at_call 50; refine (blockIs_any _ _ _ xs _ _ _ (h.up b1)).mono ?_; rw [HI.out]; rintro e w' ⟨rfl, rfl⟩)
              | (at_builtin; refine wpList_appendB rfl (.tmp 49) (.tmp 59) rfl w.heap.size _ [⟨x'.s, size, true⟩] rfl r1 (some ⟨w1.heap.size + 1 + 1, 0, none⟩) 1 1 _ [⟨x'.s + size, x'.z - size, false⟩] rfl r2 (by simp) (by simp; omega) ?_; intro v2 w2 o2 g2 s2)
              | fail)
            have bb2 : Below w.heap.size w w2 := (b1.trans (r3.mono hs1)).grown g2 (by simp; omega) (fun k hk => (World.ownsRow.lt r1 k hk).1)
            obtain ⟨A2, c2', rfl, f2⟩ := o2.form
            clear f2 g2 s2 r1 r2 r3 c1 c2 c3
            have u3 : (k : Int) + 1 ≤ n := by omega
            have u6 : (k : Int) + 1 ≤ c := by omega
            have u4 : 0 ≤ (k : Int) + 1 := by omega
            by_cases hcap : c = k + 1
            · obtain rfl : n = k + 1 := by omega
              subst hcap
              have HD := Lib.hid (show xs.drop (k + 1) = [] from List.drop_eq_nil_of_le (by rw [HL.out]; omega))
              have hkc : (k : Int) ≤ (k : Int) + 1 := by omega
              have u5 : ((k : Int) + 1).toNat = k + 1 := by omega
              have u1 : IntKind.i64.wrap ((k : Int) + 1) = (k : Int) + 1 := IntWalk.i64_in _ (by omega)
              go_still_tail 8, (by kernel_rfl)
              change wpList _ _ _ _ _ w2.drew
              have o3 : OwnB w2.drew w.heap.size (.slice (A2) 2 c2') ([⟨x'.s, size, true⟩, ⟨x'.s + size, x'.z - size, false⟩]) := World.ownsRow.drew o2
              have bb3 := bb2.drew
              clear u1 u5 o2 bb2
              generalize w2.drew = w3 at o3 bb3
              have hs3 := bb3.size
              go_wp2_with fail
              refine (concat3 w3 _ (some ⟨g, o, none⟩) (A2) (some ⟨g, o, none⟩) k 2 0 _ c2' _ (xs.take k) ([⟨x'.s, size, true⟩, ⟨x'.s + size, x'.z - size, false⟩]) [] ((h.up bb3).take (by omega)) (o3.reads (AllI.append (xs := [_]) (ys := [_]) (allI_one (by omega) (by omega) (by omega) (by omega)) (allI_one (by omega) (by omega) (by omega) (by omega)))) (BS.none_ _ _ _) (by omega)).mono ?_
              rintro e w4 ⟨v4, rfl, o4, b4⟩
              go_wp2_with fail
              go_ret2
              exact GaveB.two ⟨o4.base hs3, bb3.trans (b4.mono hs3)⟩ _ _ _ (by rw [HT.out, HD.out]; try simp) HF.out.symm
            · have hkc : (k : Int) ≤ c := by omega
              have u5 : ((k : Int) + 1).toNat = k + 1 := by omega
              have u1 : IntKind.i64.wrap ((k : Int) + 1) = (k : Int) + 1 := IntWalk.i64_in _ (by omega)
              go_still_tail 8, (by kernel_rfl)
              change wpList _ _ _ _ _ w2.drew
              have o3 : OwnB w2.drew w.heap.size (.slice (A2) 2 c2') ([⟨x'.s, size, true⟩, ⟨x'.s + size, x'.z - size, false⟩]) := World.ownsRow.drew o2
              have bb3 := bb2.drew
              clear u1 u5 o2 bb2
              generalize w2.drew = w3 at o3 bb3
              have hs3 := bb3.size
              go_wp2_with fail
              refine (concat3 w3 _ (some ⟨g, o, none⟩) (A2) (some ⟨g, o + (k + 1) * 3, none⟩) k 2 (n - (k + 1)) _ c2' _ (xs.take k) ([⟨x'.s, size, true⟩, ⟨x'.s + size, x'.z - size, false⟩]) (xs.drop (k + 1)) ((h.up bb3).take (by omega)) (o3.reads (AllI.append (xs := [_]) (ys := [_]) (allI_one (by omega) (by omega) (by omega) (by omega)) (allI_one (by omega) (by omega) (by omega) (by omega)))) ((h.up bb3).drop (by omega)) (by omega)).mono ?_
              rintro e w4 ⟨v4, rfl, o4, b4⟩
              go_wp2_with fail
              go_ret2
              exact GaveB.two ⟨o4.base hs3, bb3.trans (b4.mono hs3)⟩ _ _ _ (by rw [HT.out]; try simp) HF.out.symm
          · have HT := Lib.hid (hT4.out (by omega))
            clear hT5 hT4
            have o2 := own_one (w1.alloc (.cells #[.int .i64 x'.s, .int .i64 x'.z, .bool false] 32)) x'.s size true w.heap.size (by simp; omega)
            have bb2 : Below w.heap.size w ((w1.alloc (.cells #[.int .i64 x'.s, .int .i64 x'.z, .bool false] 32)).alloc (.cells #[.int .i64 x'.s, .int .i64 size, .bool true] 32)) := (b1.alloc hs1 _).alloc (by simp; omega) _
            go_wp2_with (first
              | (go_at_call 35; refine (wordsValid_any _ _).mono ?_; rw [hd]; rintro e w' ⟨rfl, rfl⟩)
              | (go_at_call 50; refine (blockIs_any _ _ _ xs _ _ _ (h.up b1)).mono ?_; rw [HI.out]; rintro e w' ⟨rfl, rfl⟩)
              | fail)
            clear c1 c2 c3
            rw [heap_alloc1] at o2
            generalize (w1.alloc (.cells #[.int .i64 x'.s, .int .i64 x'.z, .bool false] 32)).alloc (.cells #[.int .i64 x'.s, .int .i64 size, .bool true] 32) = w2 at o2 bb2
            have u3 : (k : Int) + 1 ≤ n := by omega
            have u6 : (k : Int) + 1 ≤ c := by omega
            have u4 : 0 ≤ (k : Int) + 1 := by omega
            by_cases hcap : c = k + 1
            · obtain rfl : n = k + 1 := by omega
              subst hcap
              have HD := Lib.hid (show xs.drop (k + 1) = [] from List.drop_eq_nil_of_le (by rw [HL.out]; omega))
              have hkc : (k : Int) ≤ (k : Int) + 1 := by omega
              have u5 : ((k : Int) + 1).toNat = k + 1 := by omega
              have u1 : IntKind.i64.wrap ((k : Int) + 1) = (k : Int) + 1 := IntWalk.i64_in _ (by omega)
              go_still_tail 8, (by kernel_rfl)
              change wpList _ _ _ _ _ w2.drew
              have o3 : OwnB w2.drew w.heap.size (.slice (some ⟨w1.heap.size + 1, 0, none⟩) 1 1) ([⟨x'.s, size, true⟩]) := World.ownsRow.drew o2
              have bb3 := bb2.drew
              clear u1 u5 o2 bb2
              generalize w2.drew = w3 at o3 bb3
              have hs3 := bb3.size
              go_wp2_with fail
              refine (concat3 w3 _ (some ⟨g, o, none⟩) (some ⟨w1.heap.size + 1, 0, none⟩) (some ⟨g, o, none⟩) k 1 0 _ 1 _ (xs.take k) ([⟨x'.s, size, true⟩]) [] ((h.up bb3).take (by omega)) (o3.reads (allI_one (by omega) (by omega) (by omega) (by omega))) (BS.none_ _ _ _) (by omega)).mono ?_
              rintro e w4 ⟨v4, rfl, o4, b4⟩
              go_wp2_with fail
              go_ret2
              exact GaveB.two ⟨o4.base hs3, bb3.trans (b4.mono hs3)⟩ _ _ _ (by rw [HT.out, HD.out]; try simp) HF.out.symm
            · have hkc : (k : Int) ≤ c := by omega
              have u5 : ((k : Int) + 1).toNat = k + 1 := by omega
              have u1 : IntKind.i64.wrap ((k : Int) + 1) = (k : Int) + 1 := IntWalk.i64_in _ (by omega)
              go_still_tail 8, (by kernel_rfl)
              change wpList _ _ _ _ _ w2.drew
              have o3 : OwnB w2.drew w.heap.size (.slice (some ⟨w1.heap.size + 1, 0, none⟩) 1 1) ([⟨x'.s, size, true⟩]) := World.ownsRow.drew o2
              have bb3 := bb2.drew
              clear u1 u5 o2 bb2
              generalize w2.drew = w3 at o3 bb3
              have hs3 := bb3.size
              go_wp2_with fail
              refine (concat3 w3 _ (some ⟨g, o, none⟩) (some ⟨w1.heap.size + 1, 0, none⟩) (some ⟨g, o + (k + 1) * 3, none⟩) k 1 (n - (k + 1)) _ 1 _ (xs.take k) ([⟨x'.s, size, true⟩]) (xs.drop (k + 1)) ((h.up bb3).take (by omega)) (o3.reads (allI_one (by omega) (by omega) (by omega) (by omega))) ((h.up bb3).drop (by omega)) (by omega)).mono ?_
              rintro e w4 ⟨v4, rfl, o4, b4⟩
              go_wp2_with fail
              go_ret2
              exact GaveB.two ⟨o4.base hs3, bb3.trans (b4.mono hs3)⟩ _ _ _ (by rw [HT.out]; try simp) HF.out.symm
    · have hd : (decide ((1 : Int) ≤ size) && decide (size ≤ 256)) = false := by simpa using hsz
      have HC := Lib.hid (canTake_size (num := num) hv hsz)
      have HT := Lib.hid (takeB_not HC.out)
      clear hv hl hlen hsz
      go_enter Try.func49, Try.ntmps49
      go_wp2_with fail
      refine (blocksValid_any _ _ _ xs _ _ h hn).mono ?_
      rw [HV.out]
      rintro e w1 ⟨rfl, b1⟩
      go_wp2_with fail
      refine (wordsValid_any _ _).mono ?_
      rw [hd]
      rintro e w' ⟨rfl, rfl⟩
      go_wp2_with fail
      refine (clone_any _ _ _ xs _ (h.up b1) hn).mono ?_
      rintro e w2 ⟨v2, rfl, o2, b2⟩
      go_wp2_with fail
      go_ret2
      exact GaveB.two ⟨o2.base b1.size, b1.trans (b2.mono b1.size)⟩ _ _ _ HT.out.symm HC.out.symm
end Go.Proofs.Ytkejbggffbkdaaa
