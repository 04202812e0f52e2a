/- What the model's LazyTake returns: for every heap, marks and number. No conditions. -/
import Derived.Test.YtakdjiojahlnmaaTb
import Derived.Test.YtakdjiojahlnmaaTd
import Derived.Test.YtakdjiojahlnmaaHh
import Derived.Test.YtakdjiojahlnmaaKz
import Derived.Test.YtakdjiojahlnmaaKd
import Derived.Test.YtakdjiojahlnmaaGa
namespace Go.Proofs.Ytakdjiojahlnmaa
open Go.RowKit
set_option maxRecDepth 100000

/-- an append of bools onto the call's own -/
theorem app_stepO {w : World} {o : Oper} {a : Act} {K : Act → World → Prop} {Q : Exit → Act → World → Prop} (_hgd : o.guard = none) (s x : Operand)
    (ho : o.op = .call { callee := .builtin .append, args := #[s, x], argTypes := #[28, 28] })
    (base : Nat) (v : Value) (xs : List Bool) (hs : a.eval s = v) (hown : OwnO w base v xs) (A : Option Addr) (m c B : Nat) (ys : List Bool) (hx : a.eval x = .slice A m c) (hr : OS w B A m ys)
    (hn : xs.length + m ≤ 1099511627776) (hbase : base ≤ w.heap.size)
    (h : ∀ v' w', OwnO w' base v' (xs ++ ys) → w.grownBy w' v.ownBlock → (v'.ownBlock = v.ownBlock ∨ v'.ownBlock = some w.heap.size) → K (a.put o.dst v') w') : Oper.wp Try.prog o a w K Q := by
  obtain ⟨v', w', hrun, h2, h3, h4⟩ := run_appendO w base v xs hown A m c B ys hr hn hbase o.type
  unfold Oper.wp execOp
  simp only [ho, resolve, invoke, builtin, Sem.run_bind, Sem.run_pure, Result.andThen_ok, List.map_toArray, List.map_cons, List.map_nil, hs, hx, hrun]
  exact h v' w' h2 h3 h4

section
variable {w w' : World} {bs : Nat} {vc vr vm : Value} {h : Hp} {ms : List Bool}
theorem OwnLz.new (ho : OwnH w bs vc vr h) (hb : bs ≤ w.heap.size) : OwnLz (w.alloc (.cells #[] 4)) bs vc vr (.slice (some ⟨w.heap.size, 0, none⟩) 0 0) h [] :=
  OwnLz.of ho ((Below.refl _ _).alloc (Nat.le_refl _) _) (own_noneO w w.heap.size (Nat.le_refl _)) hb
/-- a heap that is made behind the marks -/
theorem OwnLz.of2 (k : OwnO w bs vm ms) (hb : bs ≤ w.heap.size) (hB : Below w.heap.size w w') (ho : OwnH w' w.heap.size vc vr h) : OwnLz w' bs vc vr vm h ms := by
  obtain ⟨rvs, o⟩ := ho
  refine ⟨rvs, o.base hb, k.below hB (Nat.le_refl _), fun u hu => ?_⟩
  cases e : u.ownBlock with
  | none => exact .inl rfl
  | some j =>
    right
    intro e'
    have h1 := (o.blocks hu e).1
    have h2 := (World.ownsRow.lt k j e'.symm).2
    omega
/-- the marks become longer -/
theorem OwnLz.app {v' : Value} {l' : List Bool} (ho : OwnLz w bs vc vr vm h ms) (o1 : OwnO w' bs v' l') (g1 : w.grownBy w' vm.ownBlock) (s1 : v'.ownBlock = vm.ownBlock ∨ v'.ownBlock = some w.heap.size) : OwnLz w' bs vc vr v' h l' := by
  obtain ⟨rvs, o⟩ := ho
  refine ⟨rvs, o.heap.far g1 (fun u hu => o.sep u hu), o1, fun u hu => ?_⟩
  rcases s1 with e | e
  · rw [e]; exact o.sep u hu
  · cases e2 : u.ownBlock with
    | none => exact .inl rfl
    | some j =>
      right
      rw [e]
      intro e3
      have h1 := (o.heap.blocks hu e2).2
      have := Option.some.inj e3
      omega
theorem OwnLx.apart_lazy {rvs : List Value} {g : Nat} {cs : Array Value} (o : OwnLx w bs vc vr vm rvs h ms) (hr : Rw w g 30 cs) : Apart (some g) (vc :: vr :: vm :: rvs) := fun v hv => by
  right
  intro e
  simp only [List.mem_cons] at hv
  rcases hv with rfl | rfl | rfl | hv
  · exact row_type o.heap.row hr (by decide) e.symm
  · exact row_type o.heap.roots hr (by decide) e.symm
  · exact row_type o.mks hr (by decide) e.symm
  · obtain ⟨i, hi⟩ := List.mem_iff_getElem?.1 hv
    have hlt := (List.getElem?_eq_some_iff.1 hi).1
    have hc := List.getElem?_eq_getElem (show i < h.cs.length by rw [← o.heap.len]; exact hlt)
    exact row_type (o.heap.refs i _ v hc hi) hr (by decide) e.symm
end

/-- a lazy heap of the call's own in the box b -/
structure BoxL (w0 wr : World) (b : Nat) (vc vr vm : Value) (rvs : List Value) (h : Hp) (ms : List Bool) (i : Int) : Prop where
  own : OwnLx wr w0.heap.size vc vr vm rvs h ms
  apart : Apart (some b) (vc :: vr :: vm :: rvs)
  box : Rw wr b 30 #[vc, vr, vm, .int .i64 i]
  low : Below w0.heap.size w0 wr
  lo : w0.heap.size ≤ b
section
variable {w0 wr w1 : World} {b g d c k x i : Nat} {vc vr vm : Value} {rvs : List Value} {h : Hp} {cl old : Cl} {ms : List Bool} {at_ : Int}
theorem BoxL.boxNe (S : BoxL w0 wr b vc vr vm rvs h ms at_) {v : Value} (hv : v ∈ vc :: vr :: vm :: rvs) (hg : v.ownBlock = some g) : b ≠ g := by
  rcases S.apart v hv with e | e
  · rw [hg] at e; cases e
  · intro e'; rw [hg] at e; exact e (by rw [e'])
theorem BoxL.sepNe (S : BoxL w0 wr b vc vr vm rvs h ms at_) {v : Value} (hv : v ∈ vc :: vr :: rvs) (hg : v.ownBlock = some g) : vm.ownBlock = none ∨ vm.ownBlock ≠ some g := by
  right
  intro e
  rcases S.own.sep v hv with e1 | e1
  · rw [hg] at e1; cases e1
  · exact e1 (hg.trans e.symm)
theorem BoxL.move (S : BoxL w0 wr b vc vr vm rvs h ms at_) (j : Int) : BoxL w0 (wr.setCell ⟨b, 3, none⟩ (.int .i64 j)) b vc vr vm rvs h ms j :=
  ⟨S.own.put S.apart 3 _, S.apart, by simpa using S.box.put 3 (.int .i64 j), S.low.setCell (p := ⟨b, 3, none⟩) S.lo _, S.lo⟩
theorem BoxL.ref1 {m : Nat} (S : BoxL w0 wr b vc vr vm rvs h ms at_) (hc : h.cs[k]? = some cl) (hv : rvs[k]? = some (.slice (some ⟨g, 0, none⟩) m d)) (hm : cl.r.length = m) (y : Int) : BoxL w0 (wr.setCell ⟨g, i, none⟩ (.int .i64 y)) b vc vr vm rvs ⟨h.cs.set k ⟨cl.u, cl.d, cl.r.set i y⟩, h.rt⟩ ms at_ := by
  subst hm
  have hmem : (Value.slice (some ⟨g, 0, none⟩) cl.r.length d) ∈ vc :: vr :: rvs := by simp [List.mem_of_getElem? hv]
  have hmem2 : (Value.slice (some ⟨g, 0, none⟩) cl.r.length d) ∈ vc :: vr :: vm :: rvs := by simp [List.mem_of_getElem? hv]
  have h1 : w0.heap.size ≤ g ∧ g < wr.heap.size := S.own.heap.blocks hmem rfl
  exact ⟨⟨S.own.heap.ref1 hc hv y, S.own.mks.far (put_any wr g i _) (S.sepNe hmem rfl), S.own.sep⟩, S.apart, S.box.other (S.boxNe hmem2 rfl) _, S.low.setCell (p := ⟨g, i, none⟩) (by show w0.heap.size ≤ g; omega) _, S.lo⟩
theorem BoxL.took {n : Nat} (S : BoxL w0 wr b (.slice (some ⟨g, 0, none⟩) n c) vr vm rvs h ms at_) (hn : h.cs.length = n) (hc : h.cs[k]? = some old) :
    BoxL w0 (((wr.setCell ⟨g, k * 3, none⟩ (.bool true)).setCell ⟨g, k * 3 + 1, none⟩ (.int .i64 0)).setCell ⟨g, k * 3 + 2, none⟩ (.slice none 0 0)) b (.slice (some ⟨g, 0, none⟩) n c) vr vm (rvs.set k (.slice none 0 0)) ⟨h.cs.set k Hps.tookCl, h.rt⟩ ms at_ := by
  subst hn
  have hm : (Value.slice (some ⟨g, 0, none⟩) h.cs.length c) ∈ (Value.slice (some ⟨g, 0, none⟩) h.cs.length c) :: vr :: rvs := by simp
  have hm2 : (Value.slice (some ⟨g, 0, none⟩) h.cs.length c) ∈ (Value.slice (some ⟨g, 0, none⟩) h.cs.length c) :: vr :: vm :: rvs := by simp
  have h1 : w0.heap.size ≤ g ∧ g < wr.heap.size := S.own.heap.blocks hm rfl
  have h2 : b ≠ g := S.boxNe hm2 rfl
  have h3 := S.sepNe hm rfl
  refine ⟨⟨S.own.heap.cell (cl := Hps.tookCl) hc (World.ownsRow_nil _ _ _ _) (fun _ _ => .inl rfl), ((S.own.mks.far (put_any wr g _ _) h3).far (put_any _ g _ _) h3).far (put_any _ g _ _) h3, fun u hu => ?_⟩, fun u hu => ?_, ((S.box.other h2 _).other h2 _).other h2 _, ?_, S.lo⟩
  · simp only [List.mem_cons] at hu
    rcases hu with rfl | rfl | hu
    · exact S.own.sep _ (by simp)
    · exact S.own.sep u (by simp)
    · rcases List.mem_or_eq_of_mem_set hu with hu | rfl
      · exact S.own.sep u (by simp [hu])
      · exact .inl rfl
  · simp only [List.mem_cons] at hu
    rcases hu with rfl | rfl | rfl | hu
    · exact S.apart _ (by simp)
    · exact S.apart u (by simp)
    · exact S.apart u (by simp)
    · rcases List.mem_or_eq_of_mem_set hu with hu | rfl
      · exact S.apart u (by simp [hu])
      · exact .inl rfl
  · exact ((S.low.setCell (p := ⟨g, k * 3, none⟩) (by show w0.heap.size ≤ g; omega) _).setCell (p := ⟨g, k * 3 + 1, none⟩) (by show w0.heap.size ≤ g; omega) _).setCell (p := ⟨g, k * 3 + 2, none⟩) (by show w0.heap.size ≤ g; omega) _
theorem BoxL.mark {n : Nat} (S : BoxL w0 wr b vc vr (.slice (some ⟨g, 0, none⟩) n c) rvs h ms at_) (hn : ms.length = n) (t : Bool) : BoxL w0 (wr.setCell ⟨g, k, none⟩ (.bool t)) b vc vr (.slice (some ⟨g, 0, none⟩) n c) rvs h (ms.set k t) at_ := by
  have hm2 : (Value.slice (some ⟨g, 0, none⟩) n c) ∈ vc :: vr :: (Value.slice (some ⟨g, 0, none⟩) n c) :: rvs := by simp
  have h1 : w0.heap.size ≤ g ∧ g < wr.heap.size := S.own.blocks hm2 rfl
  exact ⟨⟨S.own.heap.far (put_any wr g k _) (fun u hu => by
    rcases S.own.sep u hu with e | e
    · exact .inl e
    · exact .inr e), S.own.mks.put' hn t, S.own.sep⟩, S.apart, S.box.other (S.boxNe hm2 rfl) _, S.low.setCell (p := ⟨g, k, none⟩) (by show w0.heap.size ≤ g; omega) _, S.lo⟩
end
/-- the number in the box -/
def atW (wr : World) (b : Nat) : Nat := match wr.cell? ⟨b, 3, none⟩ with
  | some (.int _ x) => x.toNat
  | _ => 0
theorem BoxL.at_ {w0 wr : World} {b k : Nat} {vc vr vm : Value} {rvs : List Value} {h : Hp} {ms : List Bool} (S : BoxL w0 wr b vc vr vm rvs h ms (k : Int)) : atW wr b = k := by
  have : wr.cell? ⟨b, 3, none⟩ = some (.int .i64 k) := S.box.cell 3
  rw [atW, this]
  rfl
theorem Hps.cut_cell {ms : List Bool} {cs : List Cl} {a j : Nat} {c : Cl} (hc : cs[a]? = some c) : ∃ c', (Hps.cutIJ ms cs a j)[a]? = some c' ∧ c'.r.length = c.r.length ∧ ∀ x, c'.r[j]? = some x → c.r[j]? = some x := by
  rw [Hps.cut_at hc]
  split
  · rw [if_neg (Nat.lt_irrefl _), if_pos rfl]
    refine ⟨_, rfl, ?_, fun x hx => ?_⟩
    · show ((c.r.take j).map (Hps.cutR ms) ++ c.r.drop j).length = _
      rw [List.length_append, List.length_map, List.length_take, List.length_drop]
      omega
    · have hx' : ((c.r.take j).map (Hps.cutR ms) ++ c.r.drop j)[j]? = some x := hx
      rcases Nat.lt_or_ge j c.r.length with hj | hj
      · have hl : ((c.r.take j).map (Hps.cutR ms)).length = j := by rw [List.length_map, List.length_take]; omega
        rw [List.getElem?_append_right (by rw [hl]; exact Nat.le_refl _), hl, Nat.sub_self, List.getElem?_drop, Nat.add_zero] at hx'
        exact hx'
      · rw [List.getElem?_eq_none (by rw [List.length_append, List.length_map, List.length_take, List.length_drop]; omega)] at hx'
        cases hx'
  · exact ⟨c, rfl, rfl, fun x hx => hx⟩
/-- a reference that is cut -/
theorem Hps.cut_cut {ms : List Bool} {cs : List Cl} {a j : Nat} {c c' : Cl} {y : Nat} (hc : cs[a]? = some c) (hn : c.r[j]? = some (y : Int)) (hm : ms[a]? = some false) (hy : ms[y]? = some false) (hc' : (Hps.cutIJ ms cs a j)[a]? = some c') : Hps.cutIJ ms cs a (j + 1) = (Hps.cutIJ ms cs a j).set a ⟨c'.u, c'.d, c'.r.set j (-1)⟩ := by
  obtain ⟨c2, h1, h2, h3, _, _, h6⟩ := Hps.cut_ref hc hn hm
  rw [hc'] at h1
  obtain rfl := Option.some.inj h1
  rw [h6, Hps.cutR, if_pos ⟨by omega, by rw [Int.toNat_natCast]; exact hy⟩]

set_option maxHeartbeats 16000000 in
theorem mLazyTake_any (A R D : Option Addr) (n c m d q ce : Nat) (i : Int) (h : Hp) (ms : List Bool) (w : World) (hs : HS w w.heap.size A n R m h) (hk : OS w w.heap.size D q ms) (hn : n ≤ 1099511627776) (hm : m ≤ 1099511627776) (hq : q ≤ 1099511627776) :
    Calls Try.prog 25 #[lzV A n c R m d D q ce i] w (GaveLzN w (Hps.takeLz ⟨h, ms, i⟩).1 (Hps.takeLz ⟨h, ms, i⟩).2) := by
  have B2 : Below w.heap.size w ((w.alloc (.cells #[.slice A n c, .slice R m d, .slice D q ce, .int .i64 i] 30)).alloc (.cells #[.slice none 0 0, .slice none 0 0, .slice none 0 0, .int .i64 0] 30)) := ((Below.refl _ _).alloc (Nat.le_refl _) _).alloc (by simp) _
  have q1 := (Rw.new w 30 #[.slice A n c, .slice R m d, .slice D q ce, .int .i64 i]).alloc (.cells #[.slice none 0 0, .slice none 0 0, .slice none 0 0, .int .i64 0] 30)
  have q2 := Rw.new (w.alloc (.cells #[.slice A n c, .slice R m d, .slice D q ce, .int .i64 i] 30)) 30 #[.slice none 0 0, .slice none 0 0, .slice none 0 0, .int .i64 0]
  simp only [World.size_alloc] at q2
  have s2 := hs.up B2
  have k2 := hk.up B2
  have HLC := Lib.hid hs.cells.1
  have HLM := Lib.hid hk.1
  have HLR := Lib.hid hs.roots.1
  obtain ⟨y1, hy1⟩ : ∃ y, (Hps.takeLz ⟨h, ms, i⟩).1 = y := ⟨_, rfl⟩
  obtain ⟨y2, hy2⟩ : ∃ y, (Hps.takeLz ⟨h, ms, i⟩).2 = y := ⟨_, rfl⟩
  have HY1 := Lib.hid hy1
  have HY2 := Lib.hid hy2
  rw [hy1, hy2]
  clear hy1 hy2 hs hk
  go_enter Try.func25, Try.ntmps25
  go_upto_region 1 with fail
  generalize (w.alloc (.cells #[.slice A n c, .slice R m d, .slice D q ce, .int .i64 i] 30)).alloc (.cells #[.slice none 0 0, .slice none 0 0, .slice none 0 0, .int .i64 0] 30) = w2 at B2 q1 q2 s2 k2 ⊢
  obtain ⟨p, hp⟩ : ∃ p, w.heap.size = p := ⟨_, rfl⟩
  rw [hp] at B2 q1 q2 ⊢
  have HQ := Lib.hid hp
  clear hp
  have x0 : w2.cell? ⟨p, 0, none⟩ = some (.slice A n c) := q1.cell 0
  have x1 : w2.cell? ⟨p, 1, none⟩ = some (.slice R m d) := q1.cell 1
  have x2 : w2.cell? ⟨p, 2, none⟩ = some (.slice D q ce) := q1.cell 2
  have x3 : w2.cell? ⟨p, 3, none⟩ = some (.int .i64 i) := q1.cell 3
  go_wp2_with fail
  refine (mLazyValid_any A R D n c m d q ce i h ms _ s2 k2 (by omega) (by omega) (by omega)).mono ?_
  rintro e w3 ⟨⟨bl, rfl, hbl⟩, b3⟩
  have HBL := Lib.hid hbl
  clear hbl
  replace B2 := B2.trans (b3.mono (by have := q2.lt; omega))
  replace q1 := q1.keep b3 q1.lt
  replace q2 := q2.keep b3 q2.lt
  replace s2 := s2.up b3
  replace k2 := k2.up b3
  clear b3 x0 x1 x2 x3 w2
  cases bl
  · have HE := Lib.hid (Hps.take_no (l := ⟨h, ms, i⟩) (fun x => by have := HBL.out.2 x; cases this))
    have HE1 := Lib.hid (show Hps.zeroLz = y1 by rw [← HY1.out, HE.out])
    have HE2 := Lib.hid (show (-1 : Int) = y2 by rw [← HY2.out, HE.out])
    clear HE
    have zf0 : w3.frozen? ⟨p + 1, 0, none⟩ = false := q2.frozen 0
    have zf1 : w3.frozen? ⟨p + 1, 1, none⟩ = false := q2.frozen 1
    have zf2 : w3.frozen? ⟨p + 1, 2, none⟩ = false := q2.frozen 2
    have zf3 : w3.frozen? ⟨p + 1, 3, none⟩ = false := q2.frozen 3
    have zc0 : w3.cell? ⟨p + 1, 0, none⟩ = some (.slice none 0 0) := q2.cell 0
    have zc1 : w3.cell? ⟨p + 1, 1, none⟩ = some (.slice none 0 0) := q2.cell 1
    have zc2 : w3.cell? ⟨p + 1, 2, none⟩ = some (.slice none 0 0) := q2.cell 2
    have zc3 : w3.cell? ⟨p + 1, 3, none⟩ = some (.int .i64 0) := q2.cell 3
    have P4 := ((((q2.put 0 (.slice none 0 0)).put 1 (.slice none 0 0)).put 2 (.slice none 0 0)).put 3 (.int .i64 0))
    have s8 : ((((w3.setCell ⟨p + 1, 0, none⟩ (.slice none 0 0)).setCell ⟨p + 1, 1, none⟩ (.slice none 0 0)).setCell ⟨p + 1, 2, none⟩ (.slice none 0 0)).setCell ⟨p + 1, 3, none⟩ (.int .i64 0)).cell? ⟨p + 1, 0, none⟩ = some (.slice none 0 0) := P4.cell 0
    have s9 : ((((w3.setCell ⟨p + 1, 0, none⟩ (.slice none 0 0)).setCell ⟨p + 1, 1, none⟩ (.slice none 0 0)).setCell ⟨p + 1, 2, none⟩ (.slice none 0 0)).setCell ⟨p + 1, 3, none⟩ (.int .i64 0)).cell? ⟨p + 1, 1, none⟩ = some (.slice none 0 0) := P4.cell 1
    have s10 : ((((w3.setCell ⟨p + 1, 0, none⟩ (.slice none 0 0)).setCell ⟨p + 1, 1, none⟩ (.slice none 0 0)).setCell ⟨p + 1, 2, none⟩ (.slice none 0 0)).setCell ⟨p + 1, 3, none⟩ (.int .i64 0)).cell? ⟨p + 1, 2, none⟩ = some (.slice none 0 0) := P4.cell 2
    have s11 : ((((w3.setCell ⟨p + 1, 0, none⟩ (.slice none 0 0)).setCell ⟨p + 1, 1, none⟩ (.slice none 0 0)).setCell ⟨p + 1, 2, none⟩ (.slice none 0 0)).setCell ⟨p + 1, 3, none⟩ (.int .i64 0)).cell? ⟨p + 1, 3, none⟩ = some (.int .i64 0) := P4.cell 3
    clear P4
    have HW := HQ.out
    have D := Lib.hid (OwnLz.out (w := w) (g := p + 1) 0 (own_zeroLz w3 w3.heap.size (Nat.le_refl _)) q2.lt (by rw [HW]; exact B2) (by omega))
    clear q1 q2 B2 s2 k2
    go_wp2_with fail
    obtain rfl := HE1.out
    obtain rfl := HE2.out
    exact bodyPost_ret (v := .tuple #[.agg #[.slice none 0 0, .slice none 0 0, .slice none 0 0, .int .i64 0], .int .i64 (-1)]) (by simp [results, Try.results25, go_sem, *]) rfl ⟨_, _, _, rfl, D.out.1, D.out.2⟩
  have HOK := Lib.hid (HBL.out.1 rfl)
  obtain ⟨i, rfl⟩ := Int.eq_ofNat_of_zero_le HOK.out.2.2.1.1
  have hiq : i ≤ q := by
    have h1 := HOK.out.2.2.1.2
    have h2 := HLM.out
    simp only at h1
    omega
  obtain rfl : n = q := by
    have h1 := HOK.out.2.1
    have h2 := HLM.out
    have h3 := HLC.out
    simp only at h1
    omega
  have HVH := Lib.hid HOK.out.1
  have H3 := Lib.hid (Hps.valid_small HOK.out.1).2.2
  have hn40 : n ≤ 40 := by have h1 := HLC.out; have h2 := (Hps.valid_small HOK.out.1).1; simp only at h2; omega
  have hm40 : m ≤ 4 := by have h1 := HLR.out; have h2 := (Hps.valid_small HOK.out.1).2.1; simp only at h2; omega
  have CALL := Lib.hid (fun (ww : World) (hB : Below w3.heap.size w3 ww) => l7Copy_any A R n c m d h ww (s2.up hB) (by omega) (by omega) (fun cl hcl => Nat.le_trans (H3.out cl hcl) (by omega)))
  have KS := Lib.hid (fun (ww : World) (hB : Below w3.heap.size w3 ww) => k2.up hB)
  have x0 : w3.cell? ⟨p, 0, none⟩ = some (.slice A n c) := q1.cell 0
  have x1 : w3.cell? ⟨p, 1, none⟩ = some (.slice R m d) := q1.cell 1
  have x2 : w3.cell? ⟨p, 2, none⟩ = some (.slice D n ce) := q1.cell 2
  have x3 : w3.cell? ⟨p, 3, none⟩ = some (.int .i64 i) := q1.cell 3
  have hp1 := q2.lt
  have HQ2 := Lib.hid q2
  have HB2 := Lib.hid B2
  clear HBL s2 k2 q1 q2 B2
  go_upto_region 3 with fail
  refine wp_region_inv (by kernel_rfl) (by kernel_rfl) (fun L ac ww => ∃ t4 t13 t14 t15 t16 t17 t18 t19 t20 t21 t22 : Value, ac = { tmps := #[lzV A n c R m d D n ce ↑i, Value.pointer (some { block := p, off := 0 }), Value.pointer (some { block := p + 1, off := 0 }), Value.int IntKind.i64 0, t4, undef, undef, undef, undef, Value.agg #[Value.slice A n c, Value.slice R m d, Value.slice D n ce, Value.int IntKind.i64 ↑i], Value.bool true, Value.bool false, undef, t13, t14, t15, t16, t17, t18, t19, t20, t21, t22, undef, undef, undef, undef, undef, undef, undef, undef, undef, undef, undef, undef, undef, undef, undef, undef, undef, undef, undef, undef, undef, undef, undef, undef, undef, undef, undef, undef, undef, undef, undef, undef, undef, undef, undef, undef, undef, undef, undef, undef, undef, undef, undef, undef, undef, undef, undef, undef, undef, undef, undef, undef, undef, undef, undef, undef, undef, undef, undef, undef, undef, undef, undef, undef, undef, undef, undef, undef, undef, undef, undef, undef, undef, undef, undef, undef, undef, undef, undef, undef, undef, undef, undef, undef, undef, undef], defers := [] } ∧ (L 11 = false → Below w3.heap.size w3 ww) ∧ (L 6 = true → L 2 = true) ∧ (L 6 = true → L 3 = true) ∧ (L 9 = true → L 6 = true) ∧ (L 11 = true → L 9 = true) ∧ (L 2 = true → L 1 = true) ∧ (L 6 = true → L 5 = true) ∧ (L 5 = true → L 4 = true) ∧ (L 1 = true → L 0 = true) ∧ (L 9 = true → L 8 = true) ∧ (L 8 = true → L 7 = true) ∧ (L 11 = true → L 10 = true) ∧ (L 0 = true → t13 = .pointer (some ⟨p, 0, none⟩)) ∧ (L 1 = true → t14 = .agg #[.slice A n c, .slice R m d]) ∧ (L 2 = true → ∃ (A5 : Option Addr) (n5 c5 : Nat) (R5 : Option Addr) (m5 d5 : Nat), t15 = .agg #[.slice A5 n5 c5, .slice R5 m5 d5] ∧ (L 6 = false → (L 3 = false → OwnH ww w3.heap.size (.slice A5 n5 c5) (.slice R5 m5 d5) h) ∧ (L 3 = true → OwnLz ww w3.heap.size (.slice A5 n5 c5) (.slice R5 m5 d5) t16 h []))) ∧ (L 3 = true → ∃ gs, t16 = .slice (some ⟨gs, 0, none⟩) 0 0 ∧ (L 6 = false → OwnO ww w3.heap.size t16 [])) ∧ (L 4 = true → t17 = .pointer (some ⟨p, 2, none⟩)) ∧ (L 5 = true → t18 = .slice D n ce) ∧ (L 6 = true → ∃ (A5 : Option Addr) (n5 c5 : Nat) (R5 : Option Addr) (m5 d5 : Nat) (A9 : Option Addr) (c9 : Nat), t15 = .agg #[.slice A5 n5 c5, .slice R5 m5 d5] ∧ t19 = .slice A9 n c9 ∧ (L 11 = false → OwnLz ww w3.heap.size (.slice A5 n5 c5) (.slice R5 m5 d5) (.slice A9 n c9) h ms)) ∧ (L 7 = true → t20 = .pointer (some ⟨p, 3, none⟩)) ∧ (L 8 = true → t21 = .int .i64 i) ∧ (L 9 = true → ∃ (A5 : Option Addr) (n5 c5 : Nat) (R5 : Option Addr) (m5 d5 : Nat) (A9 : Option Addr) (c9 : Nat), t15 = .agg #[.slice A5 n5 c5, .slice R5 m5 d5] ∧ t19 = .slice A9 n c9 ∧ t22 = .agg #[.slice A5 n5 c5, .slice R5 m5 d5, .slice A9 n c9, .int .i64 i]) ∧ (L 10 = true → ∃ gb : Nat, t4 = .pointer (some ⟨gb, 0, none⟩) ∧ w3.heap.size ≤ gb ∧ (L 11 = false → Rw ww gb 30 #[.slice none 0 0, .slice none 0 0, .slice none 0 0, .int .i64 0])) ∧ (L 11 = true → ∃ (A5 : Option Addr) (n5 c5 : Nat) (R5 : Option Addr) (m5 d5 : Nat) (A9 : Option Addr) (c9 gb : Nat) (w1 : World), t4 = .pointer (some ⟨gb, 0, none⟩) ∧ w3.heap.size ≤ gb ∧ ww = ((((w1.setCell ⟨gb, 0, none⟩ (.slice A5 n5 c5)).setCell ⟨gb, 1, none⟩ (.slice R5 m5 d5)).setCell ⟨gb, 2, none⟩ (.slice A9 n c9)).setCell ⟨gb, 3, none⟩ (.int .i64 i)) ∧ Rw w1 gb 30 #[.slice none 0 0, .slice none 0 0, .slice none 0 0, .int .i64 0] ∧ OwnLz w1 w3.heap.size (.slice A5 n5 c5) (.slice R5 m5 d5) (.slice A9 n c9) h ms ∧ Below w3.heap.size w3 w1)) ?h0 ?hstep ?hdone
  case h0 => exact ⟨_, _, _, _, _, _, _, _, _, _, _, rfl, fun _ => (Below.refl _ _).drew, fun h => absurd h Bool.false_ne_true, fun h => absurd h Bool.false_ne_true, fun h => absurd h Bool.false_ne_true, fun h => absurd h Bool.false_ne_true, fun h => absurd h Bool.false_ne_true, fun h => absurd h Bool.false_ne_true, fun h => absurd h Bool.false_ne_true, fun h => absurd h Bool.false_ne_true, fun h => absurd h Bool.false_ne_true, fun h => absurd h Bool.false_ne_true, fun h => absurd h Bool.false_ne_true, (fun h => absurd h Bool.false_ne_true), (fun h => absurd h Bool.false_ne_true), (fun h => absurd h Bool.false_ne_true), (fun h => absurd h Bool.false_ne_true), (fun h => absurd h Bool.false_ne_true), (fun h => absurd h Bool.false_ne_true), (fun h => absurd h Bool.false_ne_true), (fun h => absurd h Bool.false_ne_true), (fun h => absurd h Bool.false_ne_true), (fun h => absurd h Bool.false_ne_true), (fun h => absurd h Bool.false_ne_true), (fun h => absurd h Bool.false_ne_true)⟩
  case hstep =>
    rintro L ac ww i o ho hL hd ⟨t4, t13, t14, t15, t16, t17, t18, t19, t20, t21, t22, rfl, I0, I1, I2, I3, I4, I5, I6, I7, I8, I9, I10, I11, f0, f1, f2, f3, f4, f5, f6, f7, f8, f9, f10, f11⟩
    have hi : i < 12 := (Array.getElem?_eq_some_iff.1 ho).1
    obtain rfl | rfl | rfl | rfl | rfl | rfl | rfl | rfl | rfl | rfl | rfl | rfl : i = 0 ∨ i = 1 ∨ i = 2 ∨ i = 3 ∨ i = 4 ∨ i = 5 ∨ i = 6 ∨ i = 7 ∨ i = 8 ∨ i = 9 ∨ i = 10 ∨ i = 11 := by omega
    · obtain rfl := Option.some.inj ho
      have h11 : L 11 = false := by
        cases hh : L 11
        · rfl
        · exact absurd (I8 (I5 (I1 (I3 (I4 hh))))) (by rw [hL]; decide)
      have hB := I0 h11
      refine wpOp_step rfl (fun K' hK => ?_)
      go_simp
      refine hK _ _ ?_
      exact ⟨_, _, _, _, _, _, _, _, _, _, _, rfl, (fun h => I0 (by rw [upd_other (by decide)] at h; exact h)), (fun h => upd_mono (I1 (upd_ne h (by decide)))), (fun h => upd_mono (I2 (upd_ne h (by decide)))), (fun h => upd_mono (I3 (upd_ne h (by decide)))), (fun h => upd_mono (I4 (upd_ne h (by decide)))), (fun h => upd_mono (I5 (upd_ne h (by decide)))), (fun h => upd_mono (I6 (upd_ne h (by decide)))), (fun h => upd_mono (I7 (upd_ne h (by decide)))), (fun h => upd_mono (I8 (upd_ne h (by decide)))), (fun h => upd_mono (I9 (upd_ne h (by decide)))), (fun h => upd_mono (I10 (upd_ne h (by decide)))), (fun h => upd_mono (I11 (upd_ne h (by decide)))), (fun _ => rfl), (kp f1), (fun h => by
        obtain ⟨A5, n5, c5, R5, m5, d5, e, oo⟩ := f2 (upd_ne h (by decide))
        exact ⟨A5, n5, c5, R5, m5, d5, e, fun h6 => by
          rw [upd_other (by decide)] at h6
          rw [upd_other (by decide)]
          exact oo h6⟩), (fun h => by
        obtain ⟨gs, e, oo⟩ := f3 (upd_ne h (by decide))
        exact ⟨gs, e, fun h6 => by
          rw [upd_other (by decide)] at h6
          exact oo h6⟩), (kp f4), (kp f5), (fun h => by
        obtain ⟨A5, n5, c5, R5, m5, d5, A9, c9, e, e2, oo⟩ := f6 (upd_ne h (by decide))
        exact ⟨A5, n5, c5, R5, m5, d5, A9, c9, e, e2, fun h8 => by
          rw [upd_other (by decide)] at h8
          exact oo h8⟩), (kp f7), (kp f8), (kp f9), (fun h => by
        obtain ⟨gb, e, hgb, r⟩ := f10 (upd_ne h (by decide))
        exact ⟨gb, e, hgb, fun h8 => by
          rw [upd_other (by decide)] at h8
          exact r h8⟩), (fun h => absurd ((upd_ne h (by decide)).symm.trans h11) (by decide))⟩
    · obtain rfl := Option.some.inj ho
      have g0 := f0 (hd ⟨0, .data⟩ (by simp) rfl)
      subst g0
      have h11 : L 11 = false := by
        cases hh : L 11
        · rfl
        · exact absurd (I5 (I1 (I3 (I4 hh)))) (by rw [hL]; decide)
      have hB := I0 h11
      have y0 : ww.cell? ⟨p, 0, none⟩ = some (.slice A n c) := (hB.cell (p := ⟨p, 0, none⟩) (by show p < w3.heap.size; omega)).trans x0
      have y1 : ww.cell? ⟨p, 1, none⟩ = some (.slice R m d) := (hB.cell (p := ⟨p, 1, none⟩) (by show p < w3.heap.size; omega)).trans x1
      refine wpOp_step rfl (fun K' hK => ?_)
      go_simp
      refine hK _ _ ?_
      exact ⟨_, _, _, _, _, _, _, _, _, _, _, rfl, (fun h => I0 (by rw [upd_other (by decide)] at h; exact h)), (fun h => upd_mono (I1 (upd_ne h (by decide)))), (fun h => upd_mono (I2 (upd_ne h (by decide)))), (fun h => upd_mono (I3 (upd_ne h (by decide)))), (fun h => upd_mono (I4 (upd_ne h (by decide)))), (fun h => upd_mono (I5 (upd_ne h (by decide)))), (fun h => upd_mono (I6 (upd_ne h (by decide)))), (fun h => upd_mono (I7 (upd_ne h (by decide)))), (fun _ => upd_mono (hd ⟨0, .data⟩ (by simp) rfl)), (fun h => upd_mono (I9 (upd_ne h (by decide)))), (fun h => upd_mono (I10 (upd_ne h (by decide)))), (fun h => upd_mono (I11 (upd_ne h (by decide)))), (kp f0), (fun _ => rfl), (fun h => by
        obtain ⟨A5, n5, c5, R5, m5, d5, e, oo⟩ := f2 (upd_ne h (by decide))
        exact ⟨A5, n5, c5, R5, m5, d5, e, fun h6 => by
          rw [upd_other (by decide)] at h6
          rw [upd_other (by decide)]
          exact oo h6⟩), (fun h => by
        obtain ⟨gs, e, oo⟩ := f3 (upd_ne h (by decide))
        exact ⟨gs, e, fun h6 => by
          rw [upd_other (by decide)] at h6
          exact oo h6⟩), (kp f4), (kp f5), (fun h => by
        obtain ⟨A5, n5, c5, R5, m5, d5, A9, c9, e, e2, oo⟩ := f6 (upd_ne h (by decide))
        exact ⟨A5, n5, c5, R5, m5, d5, A9, c9, e, e2, fun h8 => by
          rw [upd_other (by decide)] at h8
          exact oo h8⟩), (kp f7), (kp f8), (kp f9), (fun h => by
        obtain ⟨gb, e, hgb, r⟩ := f10 (upd_ne h (by decide))
        exact ⟨gb, e, hgb, fun h8 => by
          rw [upd_other (by decide)] at h8
          exact r h8⟩), (fun h => absurd ((upd_ne h (by decide)).symm.trans h11) (by decide))⟩
    · obtain rfl := Option.some.inj ho
      have g1 := f1 (hd ⟨1, .data⟩ (by simp) rfl)
      subst g1
      have h11 : L 11 = false := by
        cases hh : L 11
        · rfl
        · exact absurd (I1 (I3 (I4 hh))) (by rw [hL]; decide)
      have hB := I0 h11
      have h6 : L 6 = false := by
        cases hh : L 6
        · rfl
        · exact absurd (I1 hh) (by rw [hL]; decide)
      refine wpOp_step rfl (fun K' hK => ?_)
      go_simp
      refine (CALL.out ww hB).mono ?_
      rintro e w' ⟨v1, v2, rfl, oh, b5⟩
      obtain ⟨A5, n5, c5, R5, m5, d5, rfl, rfl⟩ := oh.slices
      refine hK _ _ ?_
      exact ⟨_, _, _, _, _, _, _, _, _, _, _, rfl, (fun _ => hB.trans (b5.mono hB.size)), (fun h => upd_mono (I1 (upd_ne h (by decide)))), (fun h => upd_mono (I2 (upd_ne h (by decide)))), (fun h => upd_mono (I3 (upd_ne h (by decide)))), (fun h => upd_mono (I4 (upd_ne h (by decide)))), (fun _ => upd_mono (hd ⟨1, .data⟩ (by simp) rfl)), (fun h => upd_mono (I6 (upd_ne h (by decide)))), (fun h => upd_mono (I7 (upd_ne h (by decide)))), (fun h => upd_mono (I8 (upd_ne h (by decide)))), (fun h => upd_mono (I9 (upd_ne h (by decide)))), (fun h => upd_mono (I10 (upd_ne h (by decide)))), (fun h => upd_mono (I11 (upd_ne h (by decide)))), (kp f0), (kp f1), (fun _ => ⟨A5, n5, c5, R5, m5, d5, rfl, fun _ => ⟨fun _ => oh.base hB.size, fun hl3 => by
        obtain ⟨gs, e, o3⟩ := f3 (by rw [upd_other (by decide)] at hl3; exact hl3)
        exact OwnLz.of2 (o3 h6) hB.size b5 oh⟩⟩), (fun h => by
        obtain ⟨gs, e, oo⟩ := f3 (upd_ne h (by decide))
        exact ⟨gs, e, fun _ => (oo h6).below b5 (Nat.le_refl _)⟩), (kp f4), (kp f5), (fun h => absurd ((upd_ne h (by decide)).symm.trans h6) (by decide)), (kp f7), (kp f8), (fun h => absurd (I3 (upd_ne h (by decide))) (by rw [h6]; decide)), (fun h => by
        obtain ⟨gb, e, hgb, r⟩ := f10 (upd_ne h (by decide))
        have r := r h11
        exact ⟨gb, e, hgb, fun _ => r.keep b5 r.lt⟩), (fun h => absurd ((upd_ne h (by decide)).symm.trans h11) (by decide))⟩
    · obtain rfl := Option.some.inj ho
      have h11 : L 11 = false := by
        cases hh : L 11
        · rfl
        · exact absurd (I2 (I3 (I4 hh))) (by rw [hL]; decide)
      have hB := I0 h11
      have h6 : L 6 = false := by
        cases hh : L 6
        · rfl
        · exact absurd (I2 hh) (by rw [hL]; decide)
      refine wpOp_step rfl (fun K' hK => ?_)
      go_simp
      refine hK _ _ ?_
      exact ⟨_, _, _, _, _, _, _, _, _, _, _, rfl, (fun _ => hB.alloc hB.size _), (fun h => upd_mono (I1 (upd_ne h (by decide)))), (fun h => upd_mono (I2 (upd_ne h (by decide)))), (fun h => upd_mono (I3 (upd_ne h (by decide)))), (fun h => upd_mono (I4 (upd_ne h (by decide)))), (fun h => upd_mono (I5 (upd_ne h (by decide)))), (fun h => upd_mono (I6 (upd_ne h (by decide)))), (fun h => upd_mono (I7 (upd_ne h (by decide)))), (fun h => upd_mono (I8 (upd_ne h (by decide)))), (fun h => upd_mono (I9 (upd_ne h (by decide)))), (fun h => upd_mono (I10 (upd_ne h (by decide)))), (fun h => upd_mono (I11 (upd_ne h (by decide)))), (kp f0), (kp f1), (fun h => by
        obtain ⟨A5, n5, c5, R5, m5, d5, e, oo⟩ := f2 (upd_ne h (by decide))
        exact ⟨A5, n5, c5, R5, m5, d5, e, fun _ => ⟨fun h3 => absurd (upd_self.symm.trans h3) (by decide), fun _ => OwnLz.new ((oo h6).1 hL) hB.size⟩⟩), (fun _ => ⟨_, rfl, fun _ => own_noneO ww w3.heap.size hB.size⟩), (kp f4), (kp f5), (fun h => absurd ((upd_ne h (by decide)).symm.trans h6) (by decide)), (kp f7), (kp f8), (fun h => absurd (I3 (upd_ne h (by decide))) (by rw [h6]; decide)), (fun h => by
        obtain ⟨gb, e, hgb, r⟩ := f10 (upd_ne h (by decide))
        have r := r h11
        exact ⟨gb, e, hgb, fun _ => r.alloc _⟩), (fun h => absurd ((upd_ne h (by decide)).symm.trans h11) (by decide))⟩
    · obtain rfl := Option.some.inj ho
      have h11 : L 11 = false := by
        cases hh : L 11
        · rfl
        · exact absurd (I7 (I6 (I3 (I4 hh)))) (by rw [hL]; decide)
      have hB := I0 h11
      refine wpOp_step rfl (fun K' hK => ?_)
      go_simp
      refine hK _ _ ?_
      exact ⟨_, _, _, _, _, _, _, _, _, _, _, rfl, (fun h => I0 (by rw [upd_other (by decide)] at h; exact h)), (fun h => upd_mono (I1 (upd_ne h (by decide)))), (fun h => upd_mono (I2 (upd_ne h (by decide)))), (fun h => upd_mono (I3 (upd_ne h (by decide)))), (fun h => upd_mono (I4 (upd_ne h (by decide)))), (fun h => upd_mono (I5 (upd_ne h (by decide)))), (fun h => upd_mono (I6 (upd_ne h (by decide)))), (fun h => upd_mono (I7 (upd_ne h (by decide)))), (fun h => upd_mono (I8 (upd_ne h (by decide)))), (fun h => upd_mono (I9 (upd_ne h (by decide)))), (fun h => upd_mono (I10 (upd_ne h (by decide)))), (fun h => upd_mono (I11 (upd_ne h (by decide)))), (kp f0), (kp f1), (fun h => by
        obtain ⟨A5, n5, c5, R5, m5, d5, e, oo⟩ := f2 (upd_ne h (by decide))
        exact ⟨A5, n5, c5, R5, m5, d5, e, fun h6 => by
          rw [upd_other (by decide)] at h6
          rw [upd_other (by decide)]
          exact oo h6⟩), (fun h => by
        obtain ⟨gs, e, oo⟩ := f3 (upd_ne h (by decide))
        exact ⟨gs, e, fun h6 => by
          rw [upd_other (by decide)] at h6
          exact oo h6⟩), (fun _ => rfl), (kp f5), (fun h => by
        obtain ⟨A5, n5, c5, R5, m5, d5, A9, c9, e, e2, oo⟩ := f6 (upd_ne h (by decide))
        exact ⟨A5, n5, c5, R5, m5, d5, A9, c9, e, e2, fun h8 => by
          rw [upd_other (by decide)] at h8
          exact oo h8⟩), (kp f7), (kp f8), (kp f9), (fun h => by
        obtain ⟨gb, e, hgb, r⟩ := f10 (upd_ne h (by decide))
        exact ⟨gb, e, hgb, fun h8 => by
          rw [upd_other (by decide)] at h8
          exact r h8⟩), (fun h => absurd ((upd_ne h (by decide)).symm.trans h11) (by decide))⟩
    · obtain rfl := Option.some.inj ho
      have g4 := f4 (hd ⟨4, .data⟩ (by simp) rfl)
      subst g4
      have h11 : L 11 = false := by
        cases hh : L 11
        · rfl
        · exact absurd (I6 (I3 (I4 hh))) (by rw [hL]; decide)
      have hB := I0 h11
      have y2 : ww.cell? ⟨p, 2, none⟩ = some (.slice D n ce) := (hB.cell (p := ⟨p, 2, none⟩) (by show p < w3.heap.size; omega)).trans x2
      refine wpOp_step rfl (fun K' hK => ?_)
      go_simp
      refine hK _ _ ?_
      exact ⟨_, _, _, _, _, _, _, _, _, _, _, rfl, (fun h => I0 (by rw [upd_other (by decide)] at h; exact h)), (fun h => upd_mono (I1 (upd_ne h (by decide)))), (fun h => upd_mono (I2 (upd_ne h (by decide)))), (fun h => upd_mono (I3 (upd_ne h (by decide)))), (fun h => upd_mono (I4 (upd_ne h (by decide)))), (fun h => upd_mono (I5 (upd_ne h (by decide)))), (fun h => upd_mono (I6 (upd_ne h (by decide)))), (fun _ => upd_mono (hd ⟨4, .data⟩ (by simp) rfl)), (fun h => upd_mono (I8 (upd_ne h (by decide)))), (fun h => upd_mono (I9 (upd_ne h (by decide)))), (fun h => upd_mono (I10 (upd_ne h (by decide)))), (fun h => upd_mono (I11 (upd_ne h (by decide)))), (kp f0), (kp f1), (fun h => by
        obtain ⟨A5, n5, c5, R5, m5, d5, e, oo⟩ := f2 (upd_ne h (by decide))
        exact ⟨A5, n5, c5, R5, m5, d5, e, fun h6 => by
          rw [upd_other (by decide)] at h6
          rw [upd_other (by decide)]
          exact oo h6⟩), (fun h => by
        obtain ⟨gs, e, oo⟩ := f3 (upd_ne h (by decide))
        exact ⟨gs, e, fun h6 => by
          rw [upd_other (by decide)] at h6
          exact oo h6⟩), (kp f4), (fun _ => rfl), (fun h => by
        obtain ⟨A5, n5, c5, R5, m5, d5, A9, c9, e, e2, oo⟩ := f6 (upd_ne h (by decide))
        exact ⟨A5, n5, c5, R5, m5, d5, A9, c9, e, e2, fun h8 => by
          rw [upd_other (by decide)] at h8
          exact oo h8⟩), (kp f7), (kp f8), (kp f9), (fun h => by
        obtain ⟨gb, e, hgb, r⟩ := f10 (upd_ne h (by decide))
        exact ⟨gb, e, hgb, fun h8 => by
          rw [upd_other (by decide)] at h8
          exact r h8⟩), (fun h => absurd ((upd_ne h (by decide)).symm.trans h11) (by decide))⟩
    · obtain rfl := Option.some.inj ho
      have g3 := f3 (hd ⟨3, .data⟩ (by simp) rfl)
      have g5 := f5 (hd ⟨5, .data⟩ (by simp) rfl)
      subst g5
      have h11 : L 11 = false := by
        cases hh : L 11
        · rfl
        · exact absurd (I3 (I4 hh)) (by rw [hL]; decide)
      have hB := I0 h11
      have h3 := hd ⟨3, .data⟩ (by simp) rfl
      have h2 := hd ⟨2, .chain⟩ (by simp) rfl
      obtain ⟨gs, e3, o3⟩ := g3
      subst e3
      obtain ⟨A5, n5, c5, R5, m5, d5, rfl, o2⟩ := f2 h2
      have oc := (o2 hL).2 h3
      have o3i := o3 hL
      refine wpOp_step rfl (fun K' hK => ?_)
      refine app_stepO rfl (.tmp 16) (.tmp 18) rfl w3.heap.size _ [] rfl o3i D n ce ww.heap.size ms rfl (KS.out ww hB) (by simp <;> omega) hB.size ?_
      intro v' w' o1 g1 s1
      rw [List.nil_append] at o1
      have hrow := fun kk hk => (World.ownsRow.lt o3i kk hk).1
      have hB2 := hB.grown g1 hB.size hrow
      have oc2 := oc.app o1 g1 s1
      obtain ⟨A9, c9, e9, x9⟩ := o1.form
      rw [HLM.out] at e9
      subst e9
      refine hK _ _ ?_
      exact ⟨_, _, _, _, _, _, _, _, _, _, _, rfl, (fun _ => hB2), (fun _ => upd_mono (hd ⟨2, .chain⟩ (by simp) rfl)), (fun _ => upd_mono (hd ⟨3, .data⟩ (by simp) rfl)), (fun h => upd_mono (I3 (upd_ne h (by decide)))), (fun h => upd_mono (I4 (upd_ne h (by decide)))), (fun h => upd_mono (I5 (upd_ne h (by decide)))), (fun _ => upd_mono (hd ⟨5, .data⟩ (by simp) rfl)), (fun h => upd_mono (I7 (upd_ne h (by decide)))), (fun h => upd_mono (I8 (upd_ne h (by decide)))), (fun h => upd_mono (I9 (upd_ne h (by decide)))), (fun h => upd_mono (I10 (upd_ne h (by decide)))), (fun h => upd_mono (I11 (upd_ne h (by decide)))), (kp f0), (kp f1), (fun _ => ⟨_, _, _, _, _, _, rfl, fun h6 => absurd (upd_self.symm.trans h6) (by decide)⟩), (fun _ => ⟨gs, rfl, fun h6 => absurd (upd_self.symm.trans h6) (by decide)⟩), (kp f4), (kp f5), (fun _ => ⟨_, _, _, _, _, _, A9, c9, rfl, rfl, fun _ => oc2⟩), (kp f7), (kp f8), (fun h => absurd (I3 (upd_ne h (by decide))) (by rw [hL]; decide)), (fun h => by
        obtain ⟨gb, e, hgb, r⟩ := f10 (upd_ne h (by decide))
        have r := r h11
        exact ⟨gb, e, hgb, fun _ => r.far g1 (fun e => row_type o3i r (by decide) e)⟩), (fun h => absurd ((upd_ne h (by decide)).symm.trans h11) (by decide))⟩
    · obtain rfl := Option.some.inj ho
      have h11 : L 11 = false := by
        cases hh : L 11
        · rfl
        · exact absurd (I10 (I9 (I4 hh))) (by rw [hL]; decide)
      have hB := I0 h11
      refine wpOp_step rfl (fun K' hK => ?_)
      go_simp
      refine hK _ _ ?_
      exact ⟨_, _, _, _, _, _, _, _, _, _, _, rfl, (fun h => I0 (by rw [upd_other (by decide)] at h; exact h)), (fun h => upd_mono (I1 (upd_ne h (by decide)))), (fun h => upd_mono (I2 (upd_ne h (by decide)))), (fun h => upd_mono (I3 (upd_ne h (by decide)))), (fun h => upd_mono (I4 (upd_ne h (by decide)))), (fun h => upd_mono (I5 (upd_ne h (by decide)))), (fun h => upd_mono (I6 (upd_ne h (by decide)))), (fun h => upd_mono (I7 (upd_ne h (by decide)))), (fun h => upd_mono (I8 (upd_ne h (by decide)))), (fun h => upd_mono (I9 (upd_ne h (by decide)))), (fun h => upd_mono (I10 (upd_ne h (by decide)))), (fun h => upd_mono (I11 (upd_ne h (by decide)))), (kp f0), (kp f1), (fun h => by
        obtain ⟨A5, n5, c5, R5, m5, d5, e, oo⟩ := f2 (upd_ne h (by decide))
        exact ⟨A5, n5, c5, R5, m5, d5, e, fun h6 => by
          rw [upd_other (by decide)] at h6
          rw [upd_other (by decide)]
          exact oo h6⟩), (fun h => by
        obtain ⟨gs, e, oo⟩ := f3 (upd_ne h (by decide))
        exact ⟨gs, e, fun h6 => by
          rw [upd_other (by decide)] at h6
          exact oo h6⟩), (kp f4), (kp f5), (fun h => by
        obtain ⟨A5, n5, c5, R5, m5, d5, A9, c9, e, e2, oo⟩ := f6 (upd_ne h (by decide))
        exact ⟨A5, n5, c5, R5, m5, d5, A9, c9, e, e2, fun h8 => by
          rw [upd_other (by decide)] at h8
          exact oo h8⟩), (fun _ => rfl), (kp f8), (kp f9), (fun h => by
        obtain ⟨gb, e, hgb, r⟩ := f10 (upd_ne h (by decide))
        exact ⟨gb, e, hgb, fun h8 => by
          rw [upd_other (by decide)] at h8
          exact r h8⟩), (fun h => absurd ((upd_ne h (by decide)).symm.trans h11) (by decide))⟩
    · obtain rfl := Option.some.inj ho
      have g7 := f7 (hd ⟨7, .data⟩ (by simp) rfl)
      subst g7
      have h11 : L 11 = false := by
        cases hh : L 11
        · rfl
        · exact absurd (I9 (I4 hh)) (by rw [hL]; decide)
      have hB := I0 h11
      have y3 : ww.cell? ⟨p, 3, none⟩ = some (.int .i64 i) := (hB.cell (p := ⟨p, 3, none⟩) (by show p < w3.heap.size; omega)).trans x3
      refine wpOp_step rfl (fun K' hK => ?_)
      go_simp
      refine hK _ _ ?_
      exact ⟨_, _, _, _, _, _, _, _, _, _, _, rfl, (fun h => I0 (by rw [upd_other (by decide)] at h; exact h)), (fun h => upd_mono (I1 (upd_ne h (by decide)))), (fun h => upd_mono (I2 (upd_ne h (by decide)))), (fun h => upd_mono (I3 (upd_ne h (by decide)))), (fun h => upd_mono (I4 (upd_ne h (by decide)))), (fun h => upd_mono (I5 (upd_ne h (by decide)))), (fun h => upd_mono (I6 (upd_ne h (by decide)))), (fun h => upd_mono (I7 (upd_ne h (by decide)))), (fun h => upd_mono (I8 (upd_ne h (by decide)))), (fun h => upd_mono (I9 (upd_ne h (by decide)))), (fun _ => upd_mono (hd ⟨7, .data⟩ (by simp) rfl)), (fun h => upd_mono (I11 (upd_ne h (by decide)))), (kp f0), (kp f1), (fun h => by
        obtain ⟨A5, n5, c5, R5, m5, d5, e, oo⟩ := f2 (upd_ne h (by decide))
        exact ⟨A5, n5, c5, R5, m5, d5, e, fun h6 => by
          rw [upd_other (by decide)] at h6
          rw [upd_other (by decide)]
          exact oo h6⟩), (fun h => by
        obtain ⟨gs, e, oo⟩ := f3 (upd_ne h (by decide))
        exact ⟨gs, e, fun h6 => by
          rw [upd_other (by decide)] at h6
          exact oo h6⟩), (kp f4), (kp f5), (fun h => by
        obtain ⟨A5, n5, c5, R5, m5, d5, A9, c9, e, e2, oo⟩ := f6 (upd_ne h (by decide))
        exact ⟨A5, n5, c5, R5, m5, d5, A9, c9, e, e2, fun h8 => by
          rw [upd_other (by decide)] at h8
          exact oo h8⟩), (kp f7), (fun _ => rfl), (kp f9), (fun h => by
        obtain ⟨gb, e, hgb, r⟩ := f10 (upd_ne h (by decide))
        exact ⟨gb, e, hgb, fun h8 => by
          rw [upd_other (by decide)] at h8
          exact r h8⟩), (fun h => absurd ((upd_ne h (by decide)).symm.trans h11) (by decide))⟩
    · obtain rfl := Option.some.inj ho
      have g2 := f2 (hd ⟨2, .data⟩ (by simp) rfl)
      have g6 := f6 (hd ⟨6, .data⟩ (by simp) rfl)
      have g8 := f8 (hd ⟨8, .data⟩ (by simp) rfl)
      subst g8
      have h11 : L 11 = false := by
        cases hh : L 11
        · rfl
        · exact absurd (I4 hh) (by rw [hL]; decide)
      have hB := I0 h11
      obtain ⟨A5, n5, c5, R5, m5, d5, A9, c9, rfl, rfl, o6⟩ := g6
      refine wpOp_step rfl (fun K' hK => ?_)
      go_simp
      refine hK _ _ ?_
      exact ⟨_, _, _, _, _, _, _, _, _, _, _, rfl, (fun h => I0 (by rw [upd_other (by decide)] at h; exact h)), (fun h => upd_mono (I1 (upd_ne h (by decide)))), (fun h => upd_mono (I2 (upd_ne h (by decide)))), (fun _ => upd_mono (hd ⟨6, .data⟩ (by simp) rfl)), (fun h => upd_mono (I4 (upd_ne h (by decide)))), (fun h => upd_mono (I5 (upd_ne h (by decide)))), (fun h => upd_mono (I6 (upd_ne h (by decide)))), (fun h => upd_mono (I7 (upd_ne h (by decide)))), (fun h => upd_mono (I8 (upd_ne h (by decide)))), (fun _ => upd_mono (hd ⟨8, .data⟩ (by simp) rfl)), (fun h => upd_mono (I10 (upd_ne h (by decide)))), (fun h => upd_mono (I11 (upd_ne h (by decide)))), (kp f0), (kp f1), (fun h => by
        obtain ⟨A5, n5, c5, R5, m5, d5, e, oo⟩ := f2 (upd_ne h (by decide))
        exact ⟨A5, n5, c5, R5, m5, d5, e, fun h6 => by
          rw [upd_other (by decide)] at h6
          rw [upd_other (by decide)]
          exact oo h6⟩), (fun h => by
        obtain ⟨gs, e, oo⟩ := f3 (upd_ne h (by decide))
        exact ⟨gs, e, fun h6 => by
          rw [upd_other (by decide)] at h6
          exact oo h6⟩), (kp f4), (kp f5), (fun _ => ⟨_, _, _, _, _, _, A9, c9, rfl, rfl, fun h8 => by
          rw [upd_other (by decide)] at h8
          exact o6 h8⟩), (kp f7), (kp f8), (fun _ => ⟨_, _, _, _, _, _, _, _, rfl, rfl, rfl⟩), (fun h => by
        obtain ⟨gb, e, hgb, r⟩ := f10 (upd_ne h (by decide))
        exact ⟨gb, e, hgb, fun h8 => by
          rw [upd_other (by decide)] at h8
          exact r h8⟩), (fun h => absurd ((upd_ne h (by decide)).symm.trans h11) (by decide))⟩
    · obtain rfl := Option.some.inj ho
      have h11 : L 11 = false := by
        cases hh : L 11
        · rfl
        · exact absurd (I11 hh) (by rw [hL]; decide)
      have hB := I0 h11
      refine wpOp_step rfl (fun K' hK => ?_)
      go_simp
      refine hK _ _ ?_
      exact ⟨_, _, _, _, _, _, _, _, _, _, _, rfl, (fun _ => hB.alloc hB.size _), (fun h => upd_mono (I1 (upd_ne h (by decide)))), (fun h => upd_mono (I2 (upd_ne h (by decide)))), (fun h => upd_mono (I3 (upd_ne h (by decide)))), (fun h => upd_mono (I4 (upd_ne h (by decide)))), (fun h => upd_mono (I5 (upd_ne h (by decide)))), (fun h => upd_mono (I6 (upd_ne h (by decide)))), (fun h => upd_mono (I7 (upd_ne h (by decide)))), (fun h => upd_mono (I8 (upd_ne h (by decide)))), (fun h => upd_mono (I9 (upd_ne h (by decide)))), (fun h => upd_mono (I10 (upd_ne h (by decide)))), (fun h => upd_mono (I11 (upd_ne h (by decide)))), (kp f0), (kp f1), (fun h => by
        obtain ⟨A5, n5, c5, R5, m5, d5, e, oo⟩ := f2 (upd_ne h (by decide))
        exact ⟨A5, n5, c5, R5, m5, d5, e, fun h6 => by
          rw [upd_other (by decide)] at h6
          rw [upd_other (by decide)]
          exact ⟨fun h3 => ((oo h6).1 h3).below ((Below.refl ww.heap.size ww).alloc (Nat.le_refl _) _) (Nat.le_refl _), fun h3 => ((oo h6).2 h3).below ((Below.refl ww.heap.size ww).alloc (Nat.le_refl _) _) (Nat.le_refl _)⟩⟩), (fun h => by
        obtain ⟨gs, e, oo⟩ := f3 (upd_ne h (by decide))
        exact ⟨gs, e, fun h6 => by
          rw [upd_other (by decide)] at h6
          exact (oo h6).below ((Below.refl ww.heap.size ww).alloc (Nat.le_refl _) _) (Nat.le_refl _)⟩), (kp f4), (kp f5), (fun h => by
        obtain ⟨A5, n5, c5, R5, m5, d5, A9, c9, e, e2, oo⟩ := f6 (upd_ne h (by decide))
        exact ⟨A5, n5, c5, R5, m5, d5, A9, c9, e, e2, fun h8 => by
          rw [upd_other (by decide)] at h8
          exact (oo h8).below ((Below.refl ww.heap.size ww).alloc (Nat.le_refl _) _) (Nat.le_refl _)⟩), (kp f7), (kp f8), (kp f9), (fun _ => ⟨_, rfl, hB.size, fun _ => Rw.new _ _ _⟩), (fun h => absurd ((upd_ne h (by decide)).symm.trans h11) (by decide))⟩
    · obtain rfl := Option.some.inj ho
      have g9 := f9 (hd ⟨9, .data⟩ (by simp) rfl)
      have g10 := f10 (hd ⟨10, .data⟩ (by simp) rfl)
      have H9 := Lib.hid (hd ⟨9, .data⟩ (by simp) rfl)
      have H10 := Lib.hid (hd ⟨10, .data⟩ (by simp) rfl)
      have H6 := Lib.hid (I3 H9.out)
      obtain ⟨A5, n5, c5, R5, m5, d5, A9, c9, e9a, e9b, e9c⟩ := g9
      subst e9a
      subst e9b
      subst e9c
      obtain ⟨A6, n6, c6, R6, m6, d6, A8, c8, e6, e7, o6⟩ := f6 H6.out
      simp at e6 e7
      obtain ⟨⟨rfl, rfl, rfl⟩, rfl, rfl, rfl⟩ := e6
      obtain ⟨rfl, rfl⟩ := e7
      have oc := o6 hL
      have hB := I0 hL
      obtain ⟨gb, eb, hgb, r⟩ := g10
      subst eb
      have r := r hL
      have u0 : ww.cell? ⟨gb, 0, none⟩ = some (.slice none 0 0) := r.cell 0
      have v0 : ww.frozen? ⟨gb, 0, none⟩ = false := r.frozen 0
      have u1 : ww.cell? ⟨gb, 1, none⟩ = some (.slice none 0 0) := r.cell 1
      have v1 : ww.frozen? ⟨gb, 1, none⟩ = false := r.frozen 1
      have u2 : ww.cell? ⟨gb, 2, none⟩ = some (.slice none 0 0) := r.cell 2
      have v2 : ww.frozen? ⟨gb, 2, none⟩ = false := r.frozen 2
      have u3 : ww.cell? ⟨gb, 3, none⟩ = some (.int .i64 0) := r.cell 3
      have v3 : ww.frozen? ⟨gb, 3, none⟩ = false := r.frozen 3
      refine wpOp_step rfl (fun K' hK => ?_)
      go_simp
      refine hK _ _ ?_
      exact ⟨_, _, _, _, _, _, _, _, _, _, _, rfl, (fun h => absurd (upd_self.symm.trans h) (by decide)), (fun h => upd_mono (I1 (upd_ne h (by decide)))), (fun h => upd_mono (I2 (upd_ne h (by decide)))), (fun h => upd_mono (I3 (upd_ne h (by decide)))), (fun _ => upd_mono H9.out), (fun h => upd_mono (I5 (upd_ne h (by decide)))), (fun h => upd_mono (I6 (upd_ne h (by decide)))), (fun h => upd_mono (I7 (upd_ne h (by decide)))), (fun h => upd_mono (I8 (upd_ne h (by decide)))), (fun h => upd_mono (I9 (upd_ne h (by decide)))), (fun h => upd_mono (I10 (upd_ne h (by decide)))), (fun _ => upd_mono H10.out), (kp f0), (kp f1), (fun h => ⟨_, _, _, _, _, _, rfl, fun hh => absurd (H6.out.symm.trans ((upd_other (by decide)).symm.trans hh)) (by decide)⟩), (fun h => by
        obtain ⟨gs, e, oo⟩ := f3 (upd_ne h (by decide))
        exact ⟨gs, e, fun hh => absurd (H6.out.symm.trans ((upd_other (by decide)).symm.trans hh)) (by decide)⟩), (kp f4), (kp f5), (fun _ => ⟨_, _, _, _, _, _, _, _, rfl, rfl, fun hh => absurd (upd_self.symm.trans hh) (by decide)⟩), (kp f7), (kp f8), (kp f9), (fun _ => ⟨gb, rfl, hgb, fun hh => absurd (upd_self.symm.trans hh) (by decide)⟩), (fun _ => ⟨_, _, _, _, _, _, _, _, _, ww, rfl, hgb, rfl, r, oc, hB⟩)⟩
  case hdone =>
    rintro L ac ww hall ⟨t4, t13, t14, t15, t16, t17, t18, t19, t20, t21, t22, rfl, I0, I1, I2, I3, I4, I5, I6, I7, I8, I9, I10, I11, f0, f1, f2, f3, f4, f5, f6, f7, f8, f9, f10, f11⟩
    have e0 := f0 (hall 0 (by decide))
    have e1 := f1 (hall 1 (by decide))
    have e2 := f2 (hall 2 (by decide))
    have e3 := f3 (hall 3 (by decide))
    have e4 := f4 (hall 4 (by decide))
    have e5 := f5 (hall 5 (by decide))
    have e6 := f6 (hall 6 (by decide))
    have e7 := f7 (hall 7 (by decide))
    have e8 := f8 (hall 8 (by decide))
    have e9 := f9 (hall 9 (by decide))
    have e10 := f10 (hall 10 (by decide))
    have e11 := f11 (hall 11 (by decide))
    clear f0 f1 f2 f3 f4 f5 f6 f7 f8 f9 f10 f11
    obtain ⟨A5, n5, c5, R5, m5, d5, A9, c9, gb, w1, rfl, hgb, rfl, hr, oc, hB⟩ := e11
    obtain ⟨rv0, ox⟩ := oc
    have ap := ox.apart_lazy hr
    have S0 : BoxL w3 ((((w1.setCell ⟨gb, 0, none⟩ (.slice A5 n5 c5)).setCell ⟨gb, 1, none⟩ (.slice R5 m5 d5)).setCell ⟨gb, 2, none⟩ (.slice A9 n c9)).setCell ⟨gb, 3, none⟩ (.int .i64 i)) gb (.slice A5 n5 c5) (.slice R5 m5 d5) (.slice A9 n c9) rv0 h ms (i : Int) := by
      have P4 := (((hr.put 0 (.slice A5 n5 c5)).put 1 (.slice R5 m5 d5)).put 2 (.slice A9 n c9)).put 3 (.int .i64 i)
      exact ⟨(((ox.put ap 0 _).put ap 1 _).put ap 2 _).put ap 3 _, ap, by simpa using P4, (((hB.setCell (p := ⟨gb, 0, none⟩) hgb _).setCell (p := ⟨gb, 1, none⟩) hgb _).setCell (p := ⟨gb, 2, none⟩) hgb _).setCell (p := ⟨gb, 3, none⟩) hgb _, hgb⟩
    obtain ⟨_, _, _, _, ee1, ee2, -⟩ := ox.heap.form
    have hn5 : n5 = n := by
      injection ee1 with _ e _
      rw [e]
      exact HLC.out
    clear e0 e1 e2 e3 e4 e5 e6 e7 e8 e9 e10 I0 I1 I2 I3 I4 I5 I6 I7 I8 I9 I10 I11 hall ox ap hr hB ee1 ee2 x0 x1 x2 x3
    subst hn5
    generalize ((((w1.setCell ⟨gb, 0, none⟩ (.slice A5 n5 c5)).setCell ⟨gb, 1, none⟩ (.slice R5 m5 d5)).setCell ⟨gb, 2, none⟩ (.slice A9 n5 c9)).setCell ⟨gb, 3, none⟩ (.int .i64 i)) = w4 at S0 ⊢
    clear w1
    have hp5 : p + 1 < w3.heap.size := hp1
    obtain ⟨VC, hVC⟩ : ∃ V : Value, V = .slice A5 n5 c5 := ⟨_, rfl⟩
    clear VC hVC
    go_wp2_with fail
    go_loopw [5] (fun _ wr => ∃ (k : Nat) (rvs : List Value), i ≤ k ∧ k ≤ n5 ∧ Hid (Hps.unAt ms i = Hps.unAt ms k) ∧ BoxL w3 wr gb (.slice A5 n5 c5) (.slice R5 m5 d5) (.slice A9 n5 c9) rvs h ms (k : Int)) (fun _ wr => n5 - atW wr gb)
    case atStart => exact ⟨i, rv0, Nat.le_refl _, hiq, Lib.hid rfl, S0⟩
    case round =>
      clear S0 rv0
      obtain ⟨k, rvs, hik, hkq, HU, S⟩ := hrel
      have HAT := Lib.hid S.at_
      have x0 : wr.cell? ⟨gb, 0, none⟩ = some (.slice A5 n5 c5) := S.box.cell 0
      have x1 : wr.cell? ⟨gb, 1, none⟩ = some (.slice R5 m5 d5) := S.box.cell 1
      have x2 : wr.cell? ⟨gb, 2, none⟩ = some (.slice A9 n5 c9) := S.box.cell 2
      have x3 : wr.cell? ⟨gb, 3, none⟩ = some (.int .i64 k) := S.box.cell 3
      by_cases hlt : k < n5
      · have hlt' : (k : Int) < n5 := by omega
        have fz3 : wr.frozen? ⟨gb, 3, none⟩ = false := S.box.frozen 3
        have S1 := S.move ((k : Int) + 1)
        clear S
        go_upto_region 7 with fail
        generalize wr.setCell ⟨gb, 3, none⟩ (.int .i64 ((k : Int) + 1)) = w5 at S1 ⊢
        obtain ⟨gm, om, mb, e6, -, hmb, d6⟩ := S1.own.mks.reads.at_ hlt
        obtain ⟨g0, hA9, -, -⟩ : ∃ g, A9 = some ⟨g, 0, none⟩ ∧ w3.heap.size ≤ g ∧ g < w5.heap.size := by
          obtain ⟨_, _, ee, ff⟩ := S1.own.mks.form
          injection ee with ea eb ec
          rw [ea]
          exact ff (by omega)
        subst hA9
        injection e6 with e6
        injection e6 with e6 e7
        subst e6 e7
        rw [Nat.zero_add] at d6
        clear x0 x1 x2 x3 fz3
        have x2 : w5.cell? ⟨gb, 2, none⟩ = some (.slice (some ⟨g0, 0, none⟩) n5 c9) := S1.box.cell 2
        cases mb
        case true =>
          have HU2 := Lib.hid (HU.out.trans (Hps.unAt_set hmb))
          clear hmb HU
          go_wp2_with fail
          go_roundw
          case rel => exact ⟨k + 1, rvs, by omega, by omega, HU2, by simpa using S1⟩
          case measure =>
            have h1 : atW w5 gb = k + 1 := (show BoxL w3 w5 gb (.slice A5 n5 c5) (.slice R5 m5 d5) (.slice (some ⟨g0, 0, none⟩) n5 c9) rvs h ms ((k + 1 : Nat) : Int) by simpa using S1).at_
            have h2 := HAT.out
            rw [h1, h2]
            omega
        have HMB := Lib.hid hmb
        have HE := Lib.hid (show Hps.takeLz ⟨h, ms, (i : Int)⟩ = (Hps.tookLz ⟨h, ms, (i : Int)⟩ k, (k : Int)) by
          have h1 : Hps.unAt ms ((i : Int).toNat) = k := by
            rw [Int.toNat_natCast, HU.out]
            exact Hps.unAt_un HMB.out
          have h2 := Hps.take_yes (l := ⟨h, ms, (i : Int)⟩) HOK.out (by show Hps.unAt ms ((i : Int).toNat) < ms.length; rw [h1, HLM.out]; exact hlt)
          simp only [h1] at h2
          exact h2)
        have HE1 := Lib.hid (show Hps.tookLz ⟨h, ms, (i : Int)⟩ k = y1 by rw [← HY1.out, HE.out])
        have HE2 := Lib.hid (show (k : Int) = y2 by rw [← HY2.out, HE.out])
        clear hmb HU HE
        obtain ⟨K1, hK1⟩ : ∃ K1 : Int, (k : Int) + 1 = K1 := ⟨_, rfl⟩
        rw [hK1] at S1
        have HK1 := Lib.hid hK1
        clear hK1 hik hkq HAT
        have HRF := Lib.hid (Hps.valid_refs HVH.out)
        go_wp2_with fail
        clear d6 x2
        go_loopw [6] (fun iv wr => ∃ (a : Nat) (rvs : List Value), a ≤ n5 ∧ iv = .int .i64 a ∧ BoxL w3 wr gb (.slice A5 n5 c5) (.slice R5 m5 d5) (.slice (some ⟨g0, 0, none⟩) n5 c9) rvs ⟨Hps.cutIJ ms h.cs a 0, h.rt⟩ ms K1) (fun iv _ => n5 - (intOf iv).toNat)
        case atStart => exact ⟨0, rvs, by omega, rfl, by rw [Hps.cut_start]; exact S1⟩
        case round =>
          clear S1 rvs
          obtain ⟨a, rvs, ha, rfl, S⟩ := hrel
          by_cases hlt2 : a < n5
          · have hlt2' : (a : Int) < n5 := by omega
            have x0 : wr.cell? ⟨gb, 0, none⟩ = some (.slice A5 n5 c5) := S.box.cell 0
            obtain ⟨cl, hcl⟩ : ∃ cl, h.cs[a]? = some cl := ⟨_, List.getElem?_eq_getElem (by rw [HLC.out]; exact hlt2)⟩
            have HCL := Lib.hid hcl
            obtain ⟨len, hlen⟩ : ∃ len, cl.r.length = len := ⟨_, rfl⟩
            have HLEN := Lib.hid hlen
            have hl3 : len ≤ 3 := by
              rw [← hlen]
              exact H3.out cl (List.mem_of_getElem? hcl)
            clear hcl hlen
            go_wp2_with fail
            clear x0
            go_loopw [7] (fun jv wr => ∃ (j : Nat) (rvs : List Value), j ≤ len ∧ jv = .int .i64 j ∧ BoxL w3 wr gb (.slice A5 n5 c5) (.slice R5 m5 d5) (.slice (some ⟨g0, 0, none⟩) n5 c9) rvs ⟨Hps.cutIJ ms h.cs a j, h.rt⟩ ms K1) (fun jv _ => len - (intOf jv).toNat)
            case atStart => exact ⟨0, rvs, by omega, rfl, S⟩
            case round =>
              clear S rvs
              obtain ⟨j, rvs, hj, rfl, S⟩ := hrel
              obtain ⟨c', hc', hl', hr'⟩ := Hps.cut_cell (ms := ms) (j := j) HCL.out
              obtain ⟨gc, v, e4, -, hgc, hv, oi, y0, y1b, y2b, fz⟩ := S.own.heap.cell_at hc'
              subst e4
              obtain ⟨A2, c2, e5, f5⟩ := oi.form
              rw [hl', HLEN.out] at e5 f5
              subst e5
              have x0 : wr.cell? ⟨gb, 0, none⟩ = some (.slice (some ⟨gc, 0, none⟩) n5 c5) := S.box.cell 0
              have x2 : wr.cell? ⟨gb, 2, none⟩ = some (.slice (some ⟨g0, 0, none⟩) n5 c9) := S.box.cell 2
              by_cases hjl : j < len
              · have hjl' : (j : Int) < len := by omega
                obtain ⟨gr, hA2, -, hgr⟩ := f5 (by omega)
                subst hA2
                obtain ⟨_, _, x, e7, -, hx, d7⟩ := oi.reads.at_ (k := j) hjl
                injection e7 with e7
                injection e7 with e7 e8
                subst e7 e8
                rw [Nat.zero_add] at d7
                have hcx := hr' x hx
                obtain ⟨_, _, mi, e9, -, hmi, d8⟩ := S.own.mks.reads.at_ (k := a) hlt2
                injection e9 with e9
                injection e9 with e9 e8
                subst e9 e8
                rw [Nat.zero_add] at d8
                cases mi
                case true =>
                  have HN := Lib.hid (Hps.cut_same (ms := ms) (i := a) (j := j) HCL.out hcx (.inl (by rw [hmi]; simp)))
                  clear hcx hmi hx hc' hr' fz f5 hv oi y0 y1b
                  go_wp2_with fail
                  go_roundw
                  case rel => exact ⟨j + 1, rvs, by omega, by go_num, by rw [HN.out]; exact S⟩
                  case measure => simp [intOf]; omega
                by_cases hx0 : 0 ≤ x
                case neg =>
                  have hxd : decide ((0 : Int) ≤ x) = false := decide_eq_false hx0
                  have HX0 := Lib.hid hx0
                  clear hx0
                  have HN := Lib.hid (Hps.cut_same (ms := ms) (i := a) (j := j) HCL.out hcx (.inr (by rw [Hps.cutR, if_neg (fun e => HX0.out e.1)])))
                  clear hcx hmi hx hc' hr' fz f5 hv oi y0 y1b
                  go_wp2_with fail
                  go_roundw
                  case rel => exact ⟨j + 1, rvs, by omega, by go_num, by rw [HN.out]; exact S⟩
                  case measure => simp [intOf]; omega
                have hok := Hps.okRefs_at (HRF.out cl (List.mem_of_getElem? HCL.out)) hcx
                obtain ⟨y, rfl, hy, _⟩ := Hps.okRef_nat hok hx0
                rw [HLC.out] at hy
                obtain ⟨_, _, my, e10, -, hmy, d9⟩ := S.own.mks.reads.at_ (k := y) hy
                injection e10 with e10
                injection e10 with e10 e8
                subst e10 e8
                rw [Nat.zero_add] at d9
                have hy' : (y : Int) < n5 := by omega
                clear hok hx0
                cases my
                case true =>
                  have HN := Lib.hid (Hps.cut_same (ms := ms) (i := a) (j := j) HCL.out hcx (.inr (by rw [Hps.cutR, if_neg (fun e => by have := e.2; rw [Int.toNat_natCast, hmy] at this; cases this)])))
                  clear hmy hcx hmi hx hc' hr' fz f5 hv oi y0 y1b
                  go_wp2_with fail
                  go_roundw
                  case rel => exact ⟨j + 1, rvs, by omega, by go_num, by rw [HN.out]; exact S⟩
                  case measure => simp [intOf]; omega
                have HN := Lib.hid (Hps.cut_cut HCL.out hcx hmi hmy hc')
                have fzr : wr.frozen? ⟨gr, j, none⟩ = false := by
                  have oi2 := oi
                  rw [← HLEN.out, ← hl'] at oi2
                  exact World.ownsRow.frozenAt oi2 j
                have SN := S.ref1 (i := j) hc' hv (by rw [hl', HLEN.out]) (-1)
                have SN2 := Lib.hid (show BoxL w3 (wr.setCell ⟨gr, j, none⟩ (.int .i64 (-1))) gb (.slice (some ⟨gc, 0, none⟩) n5 c5) (.slice R5 m5 d5) (.slice (some ⟨g0, 0, none⟩) n5 c9) rvs ⟨Hps.cutIJ ms h.cs a (j + 1), h.rt⟩ ms K1 by rw [HN.out]; exact SN)
                clear hmy hcx hmi hx hc' hr' fz f5 hv oi y0 y1b SN S
                go_wp2_with fail
                go_roundw
                case rel => exact ⟨j + 1, rvs, by omega, by go_num, SN2.out⟩
                case measure => simp [intOf]; omega
              · obtain rfl : len = j := by omega
                have HN := Lib.hid (show Hps.cutIJ ms h.cs a len = Hps.cutIJ ms h.cs (a + 1) 0 by rw [← HLEN.out]; exact Hps.cut_next HCL.out)
                clear hc' hr' fz f5 hv oi y0 y1b
                go_wp2_with fail
                go_roundw
                case rel => exact ⟨a + 1, rvs, by omega, by go_num, by rw [← HN.out]; exact S⟩
                case measure => simp [intOf]; omega
          · obtain rfl : n5 = a := by omega
            have HCT := Lib.hid (show Hps.cutIJ ms h.cs n5 0 = Hps.cutL ms h.cs by rw [Hps.cutL, HLC.out])
            rw [HCT.out] at S
            obtain ⟨old, hold⟩ : ∃ old, (Hps.cutL ms h.cs)[k]? = some old := ⟨_, List.getElem?_eq_getElem (by rw [Hps.cutL, Hps.cut_len, HLC.out]; exact hlt)⟩
            obtain ⟨gc, v, e4, -, hgc, hv, oi, y0, y1b, y2b, fz⟩ := S.own.heap.cell_at hold
            subst e4
            have f0 := fz (k * 3)
            have f1 := fz (k * 3 + 1)
            have f2 := fz (k * 3 + 2)
            have S2 := S.took (by rw [Hps.cutL, Hps.cut_len]; exact HLC.out) hold
            have x0 : wr.cell? ⟨gb, 0, none⟩ = some (.slice (some ⟨gc, 0, none⟩) n5 c5) := S.box.cell 0
            clear S hold hv oi fz HCT
            go_upto_region 18 with fail
            generalize ((wr.setCell ⟨gc, k * 3, none⟩ (.bool true)).setCell ⟨gc, k * 3 + 1, none⟩ (.int .i64 0)).setCell ⟨gc, k * 3 + 2, none⟩ (.slice none 0 0) = w6 at S2 ⊢
            clear f0 f1 f2 y0 y1b y2b x0 hgc
            have x2 : w6.cell? ⟨gb, 2, none⟩ = some (.slice (some ⟨g0, 0, none⟩) n5 c9) := S2.box.cell 2
            have fm : w6.frozen? ⟨g0, k, none⟩ = false := S2.own.mks.frozen HLM.out k
            obtain ⟨_, _, mk, e9, -, -, d8⟩ := S2.own.mks.reads.at_ (k := k) hlt
            injection e9 with e9
            injection e9 with e9 e8
            subst e9 e8
            rw [Nat.zero_add] at d8
            have S3 := S2.mark (k := k) HLM.out true
            clear S2
            go_upto_region 19 with fail
            generalize w6.setCell ⟨g0, k, none⟩ (.bool true) = w7 at S3 ⊢
            clear x2 fm d8
            have x0 : w7.cell? ⟨gb, 0, none⟩ = some (.slice (some ⟨gc, 0, none⟩) n5 c5) := S3.box.cell 0
            have x1 : w7.cell? ⟨gb, 1, none⟩ = some (.slice R5 m5 d5) := S3.box.cell 1
            have x2 : w7.cell? ⟨gb, 2, none⟩ = some (.slice (some ⟨g0, 0, none⟩) n5 c9) := S3.box.cell 2
            have x3 : w7.cell? ⟨gb, 3, none⟩ = some (.int .i64 K1) := S3.box.cell 3
            have q4 := HQ2.out.keep S3.low hp5
            have zf0 : w7.frozen? ⟨p + 1, 0, none⟩ = false := q4.frozen 0
            have zf1 : w7.frozen? ⟨p + 1, 1, none⟩ = false := q4.frozen 1
            have zf2 : w7.frozen? ⟨p + 1, 2, none⟩ = false := q4.frozen 2
            have zf3 : w7.frozen? ⟨p + 1, 3, none⟩ = false := q4.frozen 3
            have zc0 : w7.cell? ⟨p + 1, 0, none⟩ = some (.slice none 0 0) := q4.cell 0
            have zc1 : w7.cell? ⟨p + 1, 1, none⟩ = some (.slice none 0 0) := q4.cell 1
            have zc2 : w7.cell? ⟨p + 1, 2, none⟩ = some (.slice none 0 0) := q4.cell 2
            have zc3 : w7.cell? ⟨p + 1, 3, none⟩ = some (.int .i64 0) := q4.cell 3
            have P4 := ((((q4.put 0 (.slice (some ⟨gc, 0, none⟩) n5 c5)).put 1 (.slice R5 m5 d5)).put 2 (.slice (some ⟨g0, 0, none⟩) n5 c9)).put 3 (.int .i64 K1))
            have s8 : ((((w7.setCell ⟨p + 1, 0, none⟩ (.slice (some ⟨gc, 0, none⟩) n5 c5)).setCell ⟨p + 1, 1, none⟩ (.slice R5 m5 d5)).setCell ⟨p + 1, 2, none⟩ (.slice (some ⟨g0, 0, none⟩) n5 c9)).setCell ⟨p + 1, 3, none⟩ (.int .i64 K1)).cell? ⟨p + 1, 0, none⟩ = some (.slice (some ⟨gc, 0, none⟩) n5 c5) := P4.cell 0
            have s9 : ((((w7.setCell ⟨p + 1, 0, none⟩ (.slice (some ⟨gc, 0, none⟩) n5 c5)).setCell ⟨p + 1, 1, none⟩ (.slice R5 m5 d5)).setCell ⟨p + 1, 2, none⟩ (.slice (some ⟨g0, 0, none⟩) n5 c9)).setCell ⟨p + 1, 3, none⟩ (.int .i64 K1)).cell? ⟨p + 1, 1, none⟩ = some (.slice R5 m5 d5) := P4.cell 1
            have s10 : ((((w7.setCell ⟨p + 1, 0, none⟩ (.slice (some ⟨gc, 0, none⟩) n5 c5)).setCell ⟨p + 1, 1, none⟩ (.slice R5 m5 d5)).setCell ⟨p + 1, 2, none⟩ (.slice (some ⟨g0, 0, none⟩) n5 c9)).setCell ⟨p + 1, 3, none⟩ (.int .i64 K1)).cell? ⟨p + 1, 2, none⟩ = some (.slice (some ⟨g0, 0, none⟩) n5 c9) := P4.cell 2
            have s11 : ((((w7.setCell ⟨p + 1, 0, none⟩ (.slice (some ⟨gc, 0, none⟩) n5 c5)).setCell ⟨p + 1, 1, none⟩ (.slice R5 m5 d5)).setCell ⟨p + 1, 2, none⟩ (.slice (some ⟨g0, 0, none⟩) n5 c9)).setCell ⟨p + 1, 3, none⟩ (.int .i64 K1)).cell? ⟨p + 1, 3, none⟩ = some (.int .i64 K1) := P4.cell 3
            clear P4
            have HW := HQ.out
            have D := Lib.hid (OwnLz.out (w := w) (g := p + 1) K1 ⟨_, S3.own⟩ (by omega) (by rw [HW]; exact HB2.out.trans (S3.low.mono (by omega))) (by omega))
            clear S3 q4
            go_wp2_with fail
            obtain rfl := HE1.out
            obtain rfl := HE2.out
            obtain rfl := HK1.out
            exact bodyPost_ret (v := .tuple #[.agg #[.slice (some ⟨gc, 0, none⟩) n5 c5, .slice R5 m5 d5, .slice (some ⟨g0, 0, none⟩) n5 c9, .int .i64 ((k : Int) + 1)], .int .i64 k]) (by simp [results, Try.results25, go_sem, *]) rfl ⟨_, _, _, rfl, D.out.1, D.out.2⟩
      · obtain rfl : n5 = k := by omega
        have HE := Lib.hid (Hps.take_end (l := ⟨h, ms, (i : Int)⟩) HOK.out (by
          show ¬ Hps.unAt ms ((i : Int).toNat) < ms.length
          rw [Int.toNat_natCast, HU.out, HLM.out, Hps.unAt_end (by rw [HLM.out]; exact Nat.le_refl _)]
          omega))
        have HE1 := Lib.hid (show (⟨h, ms, (n5 : Int)⟩ : Lz) = y1 by
          rw [← HY1.out, HE.out]
          show _ = (⟨h, ms, (ms.length : Int)⟩ : Lz)
          rw [HLM.out])
        have HE2 := Lib.hid (show (-1 : Int) = y2 by rw [← HY2.out, HE.out])
        have q4 := HQ2.out.keep S.low hp5
        have zf0 : wr.frozen? ⟨p + 1, 0, none⟩ = false := q4.frozen 0
        have zf1 : wr.frozen? ⟨p + 1, 1, none⟩ = false := q4.frozen 1
        have zf2 : wr.frozen? ⟨p + 1, 2, none⟩ = false := q4.frozen 2
        have zf3 : wr.frozen? ⟨p + 1, 3, none⟩ = false := q4.frozen 3
        have zc0 : wr.cell? ⟨p + 1, 0, none⟩ = some (.slice none 0 0) := q4.cell 0
        have zc1 : wr.cell? ⟨p + 1, 1, none⟩ = some (.slice none 0 0) := q4.cell 1
        have zc2 : wr.cell? ⟨p + 1, 2, none⟩ = some (.slice none 0 0) := q4.cell 2
        have zc3 : wr.cell? ⟨p + 1, 3, none⟩ = some (.int .i64 0) := q4.cell 3
        have P4 := ((((q4.put 0 (.slice A5 n5 c5)).put 1 (.slice R5 m5 d5)).put 2 (.slice A9 n5 c9)).put 3 (.int .i64 n5))
        have s8 : ((((wr.setCell ⟨p + 1, 0, none⟩ (.slice A5 n5 c5)).setCell ⟨p + 1, 1, none⟩ (.slice R5 m5 d5)).setCell ⟨p + 1, 2, none⟩ (.slice A9 n5 c9)).setCell ⟨p + 1, 3, none⟩ (.int .i64 n5)).cell? ⟨p + 1, 0, none⟩ = some (.slice A5 n5 c5) := P4.cell 0
        have s9 : ((((wr.setCell ⟨p + 1, 0, none⟩ (.slice A5 n5 c5)).setCell ⟨p + 1, 1, none⟩ (.slice R5 m5 d5)).setCell ⟨p + 1, 2, none⟩ (.slice A9 n5 c9)).setCell ⟨p + 1, 3, none⟩ (.int .i64 n5)).cell? ⟨p + 1, 1, none⟩ = some (.slice R5 m5 d5) := P4.cell 1
        have s10 : ((((wr.setCell ⟨p + 1, 0, none⟩ (.slice A5 n5 c5)).setCell ⟨p + 1, 1, none⟩ (.slice R5 m5 d5)).setCell ⟨p + 1, 2, none⟩ (.slice A9 n5 c9)).setCell ⟨p + 1, 3, none⟩ (.int .i64 n5)).cell? ⟨p + 1, 2, none⟩ = some (.slice A9 n5 c9) := P4.cell 2
        have s11 : ((((wr.setCell ⟨p + 1, 0, none⟩ (.slice A5 n5 c5)).setCell ⟨p + 1, 1, none⟩ (.slice R5 m5 d5)).setCell ⟨p + 1, 2, none⟩ (.slice A9 n5 c9)).setCell ⟨p + 1, 3, none⟩ (.int .i64 n5)).cell? ⟨p + 1, 3, none⟩ = some (.int .i64 n5) := P4.cell 3
        clear P4
        have HW := HQ.out
        have D := Lib.hid (OwnLz.out (w := w) (g := p + 1) (n5 : Int) ⟨_, S.own⟩ (by omega) (by rw [HW]; exact HB2.out.trans (S.low.mono (by omega))) (by omega))
        clear S q4 HU HE HAT
        go_wp2_with fail
        obtain rfl := HE1.out
        obtain rfl := HE2.out
        exact bodyPost_ret (v := .tuple #[.agg #[.slice A5 n5 c5, .slice R5 m5 d5, .slice A9 n5 c9, .int .i64 n5], .int .i64 (-1)]) (by simp [results, Try.results25, go_sem, *]) rfl ⟨_, _, _, rfl, D.out.1, D.out.2⟩
end Go.Proofs.Ytakdjiojahlnmaa
