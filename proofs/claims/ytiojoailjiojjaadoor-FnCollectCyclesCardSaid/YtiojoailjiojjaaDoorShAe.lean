/- What the claim DCollectCycles stands on, part 5 of 6: texts of one seat put together, with what the claim needs of them. No conditions. -/
import Derived.Test.YtiojoailjiojjaaDoorShAd
namespace Go.Proofs.YtiojoailjiojjaaDoor
open Go.RowKit
set_option maxRecDepth 100000
theorem own_noneC (w : World) (base : Nat) (hb : base ≤ w.heap.size) : (w.alloc (.cells #[] 35)).ownsRow base 35 3 (.slice (some ⟨w.heap.size, 0, none⟩) 0 0) 0 [] :=
  World.ownsRow_lit (base := base) (e := 35) (size := 3) w #[] 0 hb (by unfold maxLen; omega) rfl
theorem wpList_appendCs {w : World} {ops : Array Oper} {rest : List Oper} {o : Oper} {a : Act} {Q : Exit → Act → World → Prop} (hgd : o.guard = none) (s x : Operand)
    (ho : o.op = .call { callee := .builtin .append, args := #[s, x], argTypes := #[23, 23] })
    (base : Nat) (v : Value) (n : Nat) (vs : List Value) (hs : a.eval s = v) (hown : w.ownsRow base 35 3 v n vs) (A : Option Addr) (m c : Nat) (ys : List Value) (hx : a.eval x = .slice A m c) (hl : ys.length = m * 3)
    (hA : 0 < m → ∃ ad, A = some ad ∧ ∀ j u, ys[j]? = some u → w.cell? (ad.add j) = some u) (h1 : ∀ u ∈ ys, u.oneCell' = true) (hn : n + m ≤ 1099511627776) (hbase : base ≤ w.heap.size)
    (h : ∀ v' w', w'.ownsRow base 35 3 v' (n + m) (vs ++ ys) → w.grownBy w' v.ownBlock → (v'.ownBlock = v.ownBlock ∨ v'.ownBlock = some w.heap.size) → wpList Tryd.prog ops Q rest (a.put o.dst v') w') : wpList Tryd.prog ops Q (o :: rest) a w :=
  wpList_plain hgd fun _ hK => app_stepCs hgd s x ho base v n vs hs hown A m c ys hx hl hA h1 hn hbase fun v' w' e1 e2 e3 => hK _ _ (h v' w' e1 e2 e3)
/-- cells, copied whole -/
theorem cloneC_any (A : Option Addr) (n c : Nat) (cs : List Cl) (rvs : List Value) (w : World) (hl : cs.length = n) (hr : RefsAt w w.heap.size cs rvs)
    (hA : 0 < n → ∃ g o, A = some ⟨g, o, none⟩ ∧ g < w.heap.size ∧ ∀ (j : Nat) (u : Value), (flatC cs rvs)[j]? = some u → w.cell? ⟨g, o + j, none⟩ = some u) (hn : n ≤ 1099511627776) :
    Calls Tryd.prog 100 #[.slice A n c] w fun e w' => ∃ v, e = .returned v ∧ w'.ownsRow w.heap.size 35 3 v n (flatC cs rvs) ∧ Below w.heap.size w w' := by
  have q : ∀ (w : World) (a : Option Addr) (n c n' c' : Nat), (binOp .eql 23 (.slice a n c) (.slice none n' c')).run Tryd.prog w = .ok (.bool a.isNone) w := fun w a n c n' c' => Lib.run_eql_slice_nil w _ _ a n c n' c' Tryd.underlying23
  have hfl := flatC_length _ _ hr.1
  rw [hl] at hfl
  cases A with
  | none =>
    have h0 : n = 0 := by
      rcases Nat.eq_zero_or_pos n with h0 | h0
      · exact h0
      · obtain ⟨g, o, e, _⟩ := hA h0
        cases e
    subst h0
    have hnil : flatC cs rvs = [] := List.eq_nil_of_length_eq_zero (by omega)
    rw [hnil]
    clear hfl hA hr
    go_enter Tryd.func100, Tryd.ntmps100
    go_wp2
    go_ret
    exact ⟨_, rfl, World.ownsRow_nil _ _ _ _, Below.refl _ _⟩
  | some a =>
    have o0 := own_noneC w w.heap.size (Nat.le_refl _)
    have bl0 : Below w.heap.size w (w.alloc (.cells #[] 35)) := (Below.refl _ _).alloc (Nat.le_refl _) _
    have hone := hr.one
    obtain ⟨ys, hys⟩ : ∃ ys, flatC cs rvs = ys := ⟨_, rfl⟩
    rw [hys] at hA hfl hone ⊢
    have hA2 : 0 < n → ∃ ad, some a = some ad ∧ ∀ (j : Nat) (u : Value), ys[j]? = some u → (w.alloc (.cells #[] 35)).cell? (ad.add j) = some u := fun h0 => by
      obtain ⟨g, o, e, hg, hc⟩ := hA h0
      refine ⟨a, rfl, fun j u hu => ?_⟩
      rw [Option.some.inj e, add_lit]
      exact (bl0.cell (p := ⟨g, o + j, none⟩) hg).trans (hc j u hu)
    clear hr hA hys hl
    go_enter Tryd.func100, Tryd.ntmps100
    go_wp2_with (at_builtin; refine wpList_appendCs rfl (.tmp 5) (.tmp 6) rfl w.heap.size _ 0 [] rfl o0 (some a) n c ys rfl hfl hA2 hone (by omega) (by simp) ?_; intro v1 w1 o1 g1 s1)
    go_ret
    refine ⟨_, rfl, ?_, bl0.grown g1 (by simp) (fun k hk => (World.ownsRow.lt o0 k hk).1)⟩
    simpa using o1
/-- a copy of which the first k cells have references of their own; the others share theirs still -/
structure MidH (w : World) (base : Nat) (vc vr : Value) (ovs rvs : List Value) (k : Nat) (h : Hp) : Prop where
  len : ovs.length = k
  le : k ≤ h.cs.length
  all : rvs.length = h.cs.length
  row : w.ownsRow base 35 3 vc h.cs.length (flatC h.cs (ovs ++ rvs.drop k))
  refs : ∀ (j : Nat) (c : Cl) (v : Value), h.cs[j]? = some c → ovs[j]? = some v → OwnI w base v c.r
  roots : OwnI w base vr h.rt
  sep : Sep (vc :: vr :: ovs)
section
variable {w w' : World} {base k : Nat} {vc vr v : Value} {ovs rvs : List Value} {h : Hp}
theorem MidH.below (S : MidH w base vc vr ovs rvs k h) {B : Nat} (hb : Below B w w') (hB : w.heap.size ≤ B) : MidH w' base vc vr ovs rvs k h :=
  ⟨S.len, S.le, S.all, row_below S.row hb hB, fun j c v hc hv => (S.refs j c v hc hv).below hb hB, S.roots.below hb hB, S.sep⟩
theorem MidH.blocks (S : MidH w base vc vr ovs rvs k h) {v : Value} (hv : v ∈ vc :: vr :: ovs) {b : Nat} (hb : v.ownBlock = some b) : base ≤ b ∧ b < w.heap.size := by
  simp only [List.mem_cons] at hv
  rcases hv with rfl | rfl | hv
  · exact World.ownsRow.lt S.row b hb
  · exact World.ownsRow.lt S.roots b hb
  · obtain ⟨i, hi⟩ := List.mem_iff_getElem?.1 hv
    have hlt := (List.getElem?_eq_some_iff.1 hi).1
    have hc := List.getElem?_eq_getElem (show i < h.cs.length by have := S.len; have := S.le; omega)
    exact World.ownsRow.lt (S.refs i _ v hc hi) b hb
/-- what lies in no block of the copy's is apart from it -/
theorem MidH.apart_new (S : MidH w base vc vr ovs rvs k h) {b : Nat} (hb : w.heap.size ≤ b) : Apart (some b) (vc :: vr :: ovs) := fun v hv => by
  cases e : v.ownBlock with
  | none => exact .inl rfl
  | some q =>
    right
    have := (S.blocks hv e).2
    intro he
    have he := Option.some.inj he
    omega
theorem MidH.far (S : MidH w base vc vr ovs rvs k h) {row : Option Nat} (hg : w.grownBy w' row) (ha : Apart row (vc :: vr :: ovs)) : MidH w' base vc vr ovs rvs k h :=
  ⟨S.len, S.le, S.all, World.ownsRow.kept S.row hg (ha vc (by simp)), fun j c v hc hv => (S.refs j c v hc hv).far hg (ha v (by simp [List.mem_of_getElem? hv])), S.roots.far hg (ha vr (by simp)), S.sep⟩
theorem MidH.base' (S : MidH w base vc vr ovs rvs k h) {b : Nat} (hb : b ≤ base) : MidH w b vc vr ovs rvs k h :=
  ⟨S.len, S.le, S.all, row_base S.row hb, fun j c v hc hv => (S.refs j c v hc hv).base hb, S.roots.base hb, S.sep⟩
/-- the next cell gets references of its own -/
theorem MidH.next {g n c : Nat} {cl : Cl} (S : MidH w base (.slice (some ⟨g, 0, none⟩) n c) vr ovs rvs k h) (hn : h.cs.length = n) (hc : h.cs[k]? = some cl) (o : OwnI w base v cl.r)
    (hap : ∀ u ∈ (Value.slice (some ⟨g, 0, none⟩) n c) :: vr :: ovs, v.ownBlock = none ∨ v.ownBlock ≠ u.ownBlock) : MidH (w.setCell ⟨g, k * 3 + 2, none⟩ v) base (.slice (some ⟨g, 0, none⟩) n c) vr (ovs ++ [v]) rvs (k + 1) h := by
  have hk : k < h.cs.length := (List.getElem?_eq_some_iff.1 hc).1
  have hsp := S.sep
  unfold Sep at hsp
  rw [List.pairwise_cons, List.pairwise_cons] at hsp
  have ap : ∀ u ∈ vr :: ovs, u.ownBlock = none ∨ u.ownBlock ≠ some g := fun u hu => sep_back (hsp.1 u hu)
  have hvg : v.ownBlock = none ∨ v.ownBlock ≠ some g := hap (.slice (some ⟨g, 0, none⟩) n c) (by simp)
  refine ⟨by simp [S.len], by omega, S.all, ?_, fun j c' u hc' hu => ?_, S.roots.far (put_any w g _ _) (ap vr (by simp)), ?_⟩
  · have hrow : w.ownsRow base 35 3 (.slice (some ⟨g, 0, none⟩) h.cs.length c) h.cs.length (flatC h.cs (ovs ++ rvs.drop k)) := by
      have := S.row
      rwa [hn] at this ⊢
    have q := (World.ownsRow.stored hrow (k * 3 + 2) v).1
    rw [flatC_set_r _ _ _ _ _ cl.r (by simp [S.len, S.all]; omega) hc] at q
    have e1 : h.cs.set k ⟨cl.u, cl.d, cl.r⟩ = h.cs := by
      obtain ⟨h1, h2⟩ := List.getElem?_eq_some_iff.1 hc
      show h.cs.set k cl = h.cs
      rw [← h2]
      exact List.set_getElem_self h1
    have e2 : (ovs ++ rvs.drop k).set k v = (ovs ++ [v]) ++ rvs.drop (k + 1) := by
      rw [List.set_append_right _ _ (by rw [S.len]; exact Nat.le_refl _), S.len, Nat.sub_self, List.append_assoc]
      congr 1
      rw [List.drop_eq_getElem_cons (by rw [S.all]; exact hk)]
      rfl
    rw [e1, e2] at q
    rw [hn] at q ⊢
    exact q
  · rcases Nat.lt_or_ge j k with hj | hj
    · rw [List.getElem?_append_left (by rw [S.len]; exact hj)] at hu
      exact (S.refs j c' u hc' hu).far (put_any w g _ _) (ap u (by simp [List.mem_of_getElem? hu]))
    · have hjk : j = k := by
        have := (List.getElem?_eq_some_iff.1 hu).1
        simp [S.len] at this
        omega
      subst hjk
      rw [hc] at hc'
      rw [List.getElem?_append_right (by rw [S.len]; exact Nat.le_refl _), S.len, Nat.sub_self] at hu
      have hu : v = u := by simpa using hu
      rw [← hu, ← Option.some.inj hc']
      exact o.far (put_any w g _ _) hvg
  · unfold Sep
    rw [List.pairwise_cons, List.pairwise_cons]
    refine ⟨fun u hu => ?_, fun u hu => ?_, ?_⟩
    · rw [List.mem_cons, List.mem_append, List.mem_singleton] at hu
      rcases hu with rfl | hu | rfl
      · exact hsp.1 u (by simp)
      · exact hsp.1 u (by simp [hu])
      · exact sep_back (hap _ (by simp))
    · rw [List.mem_append, List.mem_singleton] at hu
      rcases hu with hu | rfl
      · exact hsp.2.1 u hu
      · exact sep_back (hap _ (by simp))
    · rw [List.pairwise_append]
      refine ⟨hsp.2.2, List.pairwise_singleton _ _, fun a ha b hb => ?_⟩
      rw [List.mem_singleton] at hb
      subst hb
      exact sep_back (hap a (by simp [ha]))
theorem MidH.done (S : MidH w base vc vr ovs rvs k h) (hk : k = h.cs.length) : OwnHx w base vc vr ovs h := by
  refine ⟨by rw [S.len, hk], ?_, S.refs, S.roots, S.sep⟩
  have := S.row
  rwa [hk, List.drop_of_length_le (by rw [S.all]; exact Nat.le_refl _), List.append_nil] at this
theorem MidH.form (S : MidH w base vc vr ovs rvs k h) : ∃ A c R d, vc = .slice A h.cs.length c ∧ vr = .slice R h.rt.length d ∧ h.cs.length ≤ c ∧ (0 < h.cs.length → ∃ g, A = some ⟨g, 0, none⟩ ∧ base ≤ g ∧ g < w.heap.size) := by
  obtain ⟨R, d, rfl, hR⟩ := S.roots.form
  rcases S.row.2 with ⟨e, h0⟩ | ⟨g, cap, cur, e, hb, hh, hc, _⟩
  · exact ⟨none, 0, R, d, by rw [e, h0], rfl, by omega, fun h => by omega⟩
  · exact ⟨some ⟨g, 0, none⟩, cap, R, d, e, rfl, hc, fun _ => ⟨g, rfl, hb, (Array.getElem?_eq_some_iff.1 hh).1⟩⟩
/-- the references that the next cell still shares -/
theorem MidH.ref {g n c : Nat} {cl : Cl} {B : Nat} (S : MidH w base (.slice (some ⟨g, 0, none⟩) n c) vr ovs rvs k h) (hn : h.cs.length = n) (hc : h.cs[k]? = some cl) (hr : RefsAt w B h.cs rvs) :
    ∃ A m cc, w.cell? ⟨g, k * 3 + 2, none⟩ = some (.slice A m cc) ∧ m ≤ cc ∧ IS w B A m cl.r ∧ ∀ i, w.frozen? ⟨g, i, none⟩ = false := by
  have hk : k < h.cs.length := (List.getElem?_eq_some_iff.1 hc).1
  have hv := List.getElem?_eq_getElem (show k < rvs.length by rw [S.all]; exact hk)
  obtain ⟨A, m, cc, e, hm, hi⟩ := hr.2 k cl _ hc hv
  have hv2 : (ovs ++ rvs.drop k)[k]? = some (.slice A m cc) := by
    rw [List.getElem?_append_right (by rw [S.len]; exact Nat.le_refl _), S.len, Nat.sub_self, List.getElem?_drop, Nat.add_zero, hv, e]
  obtain ⟨_, _, f3⟩ := flatC_at _ _ _ _ _ hc hv2
  have hrow : w.ownsRow base 35 3 (.slice (some ⟨g, 0, none⟩) h.cs.length c) h.cs.length (flatC h.cs (ovs ++ rvs.drop k)) := by
    have := S.row
    rwa [hn] at this ⊢
  exact ⟨A, m, cc, (World.ownsRow.cellAt hrow _ (by omega)).trans f3, hm, hi, fun i => World.ownsRow.frozenAt hrow i⟩
end
end Go.Proofs.YtiojoailjiojjaaDoor

namespace Go.Proofs.YtiojoailjiojjaaDoor
open Go.RowKit
set_option maxRecDepth 100000
theorem row_form {w : World} {base n s : Nat} {e : TypeId} {v : Value} {xs : List Value} (h : w.ownsRow base e s v n xs) : ∃ A c, v = .slice A n c := by
  rcases h.2 with ⟨rfl, h0⟩ | ⟨g, cap, cur, rfl, _⟩
  · exact ⟨none, 0, by rw [h0]⟩
  · exact ⟨_, _, rfl⟩
set_option maxHeartbeats 4000000 in
theorem cloneHeap_any (A R : Option Addr) (n c m d : Nat) (h : Hp) (w : World) (hs : HS w w.heap.size A n R m h) (hn : n ≤ 1099511627776) (hm : m ≤ 1099511627776) (h3 : ∀ cl ∈ h.cs, cl.r.length ≤ 1000000) :
    Calls Tryd.prog 54 #[heapV A n c R m d] w (GaveH w h) := by
  have hlc := hs.cells.1
  obtain ⟨rvs, hrv, hrA⟩ := hs.cells.refs
  have B2 : Below w.heap.size w ((w.alloc (.cells #[.slice A n c, .slice R m d] 26)).alloc (.cells #[.slice none 0 0, .slice none 0 0] 26)) := ((Below.refl _ _).alloc (Nat.le_refl _) _).alloc (by simp) _
  have Q1 := (Rw.new w 26 #[.slice A n c, .slice R m d]).alloc (.cells #[.slice none 0 0, .slice none 0 0] 26)
  have Q2 := Rw.new (w.alloc (.cells #[.slice A n c, .slice R m d] 26)) 26 #[.slice none 0 0, .slice none 0 0]
  simp only [World.size_alloc] at Q2
  have H3 := Lib.hid h3
  have HLC := Lib.hid hlc
  have HRV := Lib.hid hrv
  have HRA := Lib.hid hrA
  clear h3 hlc hrv hrA
  go_enter Tryd.func54, Tryd.ntmps54
  go_upto_region 1 with fail
  generalize ((w.alloc (.cells #[.slice A n c, .slice R m d] 26)).alloc (.cells #[.slice none 0 0, .slice none 0 0] 26)) = w2 at B2 Q1 Q2 ⊢
  have hz := Q2.lt
  refine wp_region_inv (by kernel_rfl) (by kernel_rfl) (fun L ac ww => ∃ t3 t5 t6 t7 t8 t9 t10 t11 : Value, ac = { tmps := #[heapV A n c R m d, Value.pointer (some { block := w.heap.size, off := 0 }), Value.pointer (some { block := w.heap.size + 1, off := 0 }), t3, undef, t5, t6, t7, t8, t9, t10, t11, undef, undef, undef, undef, undef, undef, undef, undef, undef, undef, undef, undef, undef, undef, undef, undef, undef, undef, undef, undef], defers := [] } ∧ (Below w2.heap.size w2 ww) ∧ (L 0 = true → t5 = .pointer (some ⟨w.heap.size, 0, none⟩)) ∧ (L 1 = true → t6 = .slice A n c) ∧ (L 2 = true → ww.ownsRow w2.heap.size 35 3 t7 n (flatC h.cs rvs)) ∧ (L 3 = true → t8 = .pointer (some ⟨w.heap.size, 1, none⟩)) ∧ (L 4 = true → t9 = .slice R m d) ∧ (L 5 = true → OwnI ww w2.heap.size t10 h.rt ∧ (t7.ownBlock = none ∨ t7.ownBlock ≠ t10.ownBlock) ∧ L 2 = true) ∧ (L 6 = true → t11 = .agg #[t7, t10] ∧ L 5 = true ∧ L 2 = true) ∧ (L 7 = true → ∃ g3, t3 = .pointer (some ⟨g3, 0, none⟩) ∧ w2.heap.size ≤ g3 ∧ ∃ cs, Rw ww g3 26 cs ∧ cs = (if L 8 = true then #[t7, t10] else #[.slice none 0 0, .slice none 0 0])) ∧ (L 8 = true → L 7 = true ∧ L 5 = true ∧ L 2 = true)) ?h0 ?hstep ?hdone
  case h0 => exact ⟨_, _, _, _, _, _, _, _, rfl, (Below.refl _ _).drew, (fun h => absurd h Bool.false_ne_true), (fun h => absurd h Bool.false_ne_true), (fun h => absurd h Bool.false_ne_true), (fun h => absurd h Bool.false_ne_true), (fun h => absurd h Bool.false_ne_true), (fun h => absurd h Bool.false_ne_true), (fun h => absurd h Bool.false_ne_true), (fun h => absurd h Bool.false_ne_true), (fun h => absurd h Bool.false_ne_true)⟩
  case hstep =>
    rintro L ac ww i o ho hL hd ⟨t3, t5, t6, t7, t8, t9, t10, t11, rfl, I0, f0, f1, f2, f3, f4, f5, f6, f7, f8⟩
    have hi : i < 9 := (Array.getElem?_eq_some_iff.1 ho).1
    obtain rfl | rfl | rfl | rfl | rfl | rfl | rfl | rfl | rfl : i = 0 ∨ i = 1 ∨ i = 2 ∨ i = 3 ∨ i = 4 ∨ i = 5 ∨ i = 6 ∨ i = 7 ∨ i = 8 := by omega
    · obtain rfl := Option.some.inj ho
      refine wpOp_step rfl (fun K' hK => ?_)
      go_simp
      refine hK _ _ ?_
      exact ⟨_, _, _, _, _, _, _, _, rfl, (I0), (fun _ => rfl), (kp f1), (kp f2), (kp f3), (kp f4), (fun h => ⟨(f5 (upd_ne h (by decide))).1, (f5 (upd_ne h (by decide))).2.1, upd_mono (f5 (upd_ne h (by decide))).2.2⟩), (fun h => ⟨(f6 (upd_ne h (by decide))).1, upd_mono (f6 (upd_ne h (by decide))).2.1, upd_mono (f6 (upd_ne h (by decide))).2.2⟩), (fun h => by
        obtain ⟨g3, e3, h3, cs, h5, h6⟩ := f7 (upd_ne h (by decide))
        exact ⟨g3, e3, h3, cs, h5, by rw [h6, upd_other (by decide)]⟩), (fun h => ⟨upd_mono (f8 (upd_ne h (by decide))).1, upd_mono (f8 (upd_ne h (by decide))).2.1, upd_mono (f8 (upd_ne h (by decide))).2.2⟩)⟩
    · obtain rfl := Option.some.inj ho
      have g0 := f0 (hd ⟨0, .data⟩ (by simp) rfl)
      subst g0
      have z0 : ww.cell? ⟨w.heap.size, 0, none⟩ = some (.slice A n c) := (I0.cell (p := ⟨w.heap.size, 0, none⟩) (by show w.heap.size < w2.heap.size; omega)).trans (Q1.cell 0)
      refine wpOp_step rfl (fun K' hK => ?_)
      go_simp
      refine hK _ _ ?_
      exact ⟨_, _, _, _, _, _, _, _, rfl, (I0), (kp f0), (fun _ => rfl), (kp f2), (kp f3), (kp f4), (fun h => ⟨(f5 (upd_ne h (by decide))).1, (f5 (upd_ne h (by decide))).2.1, upd_mono (f5 (upd_ne h (by decide))).2.2⟩), (fun h => ⟨(f6 (upd_ne h (by decide))).1, upd_mono (f6 (upd_ne h (by decide))).2.1, upd_mono (f6 (upd_ne h (by decide))).2.2⟩), (fun h => by
        obtain ⟨g3, e3, h3, cs, h5, h6⟩ := f7 (upd_ne h (by decide))
        exact ⟨g3, e3, h3, cs, h5, by rw [h6, upd_other (by decide)]⟩), (fun h => ⟨upd_mono (f8 (upd_ne h (by decide))).1, upd_mono (f8 (upd_ne h (by decide))).2.1, upd_mono (f8 (upd_ne h (by decide))).2.2⟩)⟩
    · obtain rfl := Option.some.inj ho
      have g1 := f1 (hd ⟨1, .data⟩ (by simp) rfl)
      subst g1
      refine wpOp_step rfl (fun K' hK => ?_)
      go_simp
      have bw := B2.trans (I0.mono B2.size)
      have hrv := (hs.up bw)
      obtain ⟨rvs2, hr2, hA2⟩ := (hs.below bw).cells.refs
      refine (cloneC_any A n c h.cs rvs ww HLC.out (by have := HRV.out.below bw; exact ⟨this.1, fun k c v hc hv => by obtain ⟨A1, m1, c1, e, h1, h2⟩ := this.2 k c v hc hv; exact ⟨A1, m1, c1, e, h1, h2.more bw.size⟩⟩) (fun h0 => by obtain ⟨g, o, e, hg, hc⟩ := HRA.out h0; exact ⟨g, o, e, Nat.lt_of_lt_of_le hg bw.size, fun j u hu => (bw.cell (p := ⟨g, o + j, none⟩) hg).trans (hc j u hu)⟩) hn).mono ?_
      rintro e w' ⟨v1, rfl, o1, b5⟩
      refine hK _ _ ?_
      exact ⟨_, _, _, _, _, _, _, _, rfl, (I0.trans (b5.mono I0.size)), (kp f0), (kp f1), (fun _ => row_base o1 I0.size), (kp f3), (kp f4), (fun h => by
        have h1 := upd_ne h (by decide)
        exact absurd (f5 h1).2.2 (by rw [hL]; decide)), (fun h => absurd (f6 (upd_ne h (by decide))).2.2 (by rw [hL]; decide)), (fun h => by
        have hL7 := upd_ne h (by decide)
        obtain ⟨g3, e3, h3, cs, h5, h6⟩ := f7 hL7
        have hL8 : L 8 = false := by
          cases e : L 8
          · rfl
          · have := (f8 e).2.2
            rw [hL] at this
            cases this
        rw [if_neg (by rw [hL8]; decide)] at h6
        exact ⟨g3, e3, h3, cs, h5.keep b5 h5.lt, by rw [h6, upd_other (by decide), if_neg (by rw [hL8]; decide)]⟩), (fun h => ⟨upd_mono (f8 (upd_ne h (by decide))).1, upd_mono (f8 (upd_ne h (by decide))).2.1, upd_mono (f8 (upd_ne h (by decide))).2.2⟩)⟩
    · obtain rfl := Option.some.inj ho
      refine wpOp_step rfl (fun K' hK => ?_)
      go_simp
      refine hK _ _ ?_
      exact ⟨_, _, _, _, _, _, _, _, rfl, (I0), (kp f0), (kp f1), (kp f2), (fun _ => rfl), (kp f4), (fun h => ⟨(f5 (upd_ne h (by decide))).1, (f5 (upd_ne h (by decide))).2.1, upd_mono (f5 (upd_ne h (by decide))).2.2⟩), (fun h => ⟨(f6 (upd_ne h (by decide))).1, upd_mono (f6 (upd_ne h (by decide))).2.1, upd_mono (f6 (upd_ne h (by decide))).2.2⟩), (fun h => by
        obtain ⟨g3, e3, h3, cs, h5, h6⟩ := f7 (upd_ne h (by decide))
        exact ⟨g3, e3, h3, cs, h5, by rw [h6, upd_other (by decide)]⟩), (fun h => ⟨upd_mono (f8 (upd_ne h (by decide))).1, upd_mono (f8 (upd_ne h (by decide))).2.1, upd_mono (f8 (upd_ne h (by decide))).2.2⟩)⟩
    · obtain rfl := Option.some.inj ho
      have g3 := f3 (hd ⟨3, .data⟩ (by simp) rfl)
      subst g3
      have z1 : ww.cell? ⟨w.heap.size, 1, none⟩ = some (.slice R m d) := (I0.cell (p := ⟨w.heap.size, 1, none⟩) (by show w.heap.size < w2.heap.size; omega)).trans (Q1.cell 1)
      refine wpOp_step rfl (fun K' hK => ?_)
      go_simp
      refine hK _ _ ?_
      exact ⟨_, _, _, _, _, _, _, _, rfl, (I0), (kp f0), (kp f1), (kp f2), (kp f3), (fun _ => rfl), (fun h => ⟨(f5 (upd_ne h (by decide))).1, (f5 (upd_ne h (by decide))).2.1, upd_mono (f5 (upd_ne h (by decide))).2.2⟩), (fun h => ⟨(f6 (upd_ne h (by decide))).1, upd_mono (f6 (upd_ne h (by decide))).2.1, upd_mono (f6 (upd_ne h (by decide))).2.2⟩), (fun h => by
        obtain ⟨g3, e3, h3, cs, h5, h6⟩ := f7 (upd_ne h (by decide))
        exact ⟨g3, e3, h3, cs, h5, by rw [h6, upd_other (by decide)]⟩), (fun h => ⟨upd_mono (f8 (upd_ne h (by decide))).1, upd_mono (f8 (upd_ne h (by decide))).2.1, upd_mono (f8 (upd_ne h (by decide))).2.2⟩)⟩
    · obtain rfl := Option.some.inj ho
      have g4 := f4 (hd ⟨4, .data⟩ (by simp) rfl)
      subst g4
      have g2 := f2 (hd ⟨2, .chain⟩ (by simp) rfl)
      refine wpOp_step rfl (fun K' hK => ?_)
      go_simp
      have bw := B2.trans (I0.mono B2.size)
      refine (cloneI_any R m d h.rt ww ((hs.up bw).roots) hm).mono ?_
      rintro e w' ⟨v1, rfl, o1, b5⟩
      refine hK _ _ ?_
      exact ⟨_, _, _, _, _, _, _, _, rfl, (I0.trans (b5.mono I0.size)), (kp f0), (kp f1), (fun h => row_below (f2 (upd_ne h (by decide))) b5 (Nat.le_refl _)), (kp f3), (kp f4), (fun _ => ⟨o1.base I0.size, by
        cases e7 : t7.ownBlock with
        | none => exact .inl rfl
        | some q =>
          right
          intro e
          have a1 := (World.ownsRow.lt g2 q e7).2
          have a2 := (World.ownsRow.lt o1 q e.symm).1
          omega, by rw [upd_other (by decide)]; exact hd ⟨2, .chain⟩ (by simp) rfl⟩), (fun h => absurd (f6 (upd_ne h (by decide))).2.1 (by rw [hL]; decide)), (fun h => by
        have hL7 := upd_ne h (by decide)
        obtain ⟨g3, e3, h3, cs, h5, h6⟩ := f7 hL7
        have hL8 : L 8 = false := by
          cases e : L 8
          · rfl
          · have := (f8 e).2.1
            rw [hL] at this
            cases this
        rw [if_neg (by rw [hL8]; decide)] at h6
        exact ⟨g3, e3, h3, cs, h5.keep b5 h5.lt, by rw [h6, upd_other (by decide), if_neg (by rw [hL8]; decide)]⟩), (fun h => ⟨upd_mono (f8 (upd_ne h (by decide))).1, upd_mono (f8 (upd_ne h (by decide))).2.1, upd_mono (f8 (upd_ne h (by decide))).2.2⟩)⟩
    · obtain rfl := Option.some.inj ho
      have g2 := f2 (hd ⟨2, .data⟩ (by simp) rfl)
      have g5 := f5 (hd ⟨5, .data⟩ (by simp) rfl)
      have l5 := hd ⟨5, .data⟩ (by simp) rfl
      have l2 := hd ⟨2, .data⟩ (by simp) rfl
      obtain ⟨A7, c7, rfl⟩ := row_form g2
      obtain ⟨A9, d9, rfl, -⟩ := g5.1.form
      refine wpOp_step rfl (fun K' hK => ?_)
      go_simp
      refine hK _ _ ?_
      exact ⟨_, _, _, _, _, _, _, _, rfl, (I0), (kp f0), (kp f1), (kp f2), (kp f3), (kp f4), (fun h => ⟨(f5 (upd_ne h (by decide))).1, (f5 (upd_ne h (by decide))).2.1, upd_mono (f5 (upd_ne h (by decide))).2.2⟩), (fun _ => ⟨rfl, upd_mono l5, upd_mono l2⟩), (fun h => by
        obtain ⟨g3, e3, h3, cs, h5, h6⟩ := f7 (upd_ne h (by decide))
        exact ⟨g3, e3, h3, cs, h5, by rw [h6, upd_other (by decide)]⟩), (fun h => ⟨upd_mono (f8 (upd_ne h (by decide))).1, upd_mono (f8 (upd_ne h (by decide))).2.1, upd_mono (f8 (upd_ne h (by decide))).2.2⟩)⟩
    · obtain rfl := Option.some.inj ho
      have hL8 : L 8 = false := by
        cases e : L 8
        · rfl
        · exact absurd (f8 e).1 (by rw [hL]; decide)
      refine wpOp_step rfl (fun K' hK => ?_)
      go_simp
      have b5 : Below ww.heap.size ww (ww.alloc (.cells #[.slice none 0 0, .slice none 0 0] 26)) := (Below.refl _ _).alloc (Nat.le_refl _) _
      refine hK _ _ ?_
      exact ⟨_, _, _, _, _, _, _, _, rfl, (I0.alloc I0.size _), (kp f0), (kp f1), (fun h => row_below (f2 (upd_ne h (by decide))) b5 (Nat.le_refl _)), (kp f3), (kp f4), (fun h => ⟨(f5 (upd_ne h (by decide))).1.below b5 (Nat.le_refl _), (f5 (upd_ne h (by decide))).2.1, upd_mono (f5 (upd_ne h (by decide))).2.2⟩), (fun h => ⟨(f6 (upd_ne h (by decide))).1, upd_mono (f6 (upd_ne h (by decide))).2.1, upd_mono (f6 (upd_ne h (by decide))).2.2⟩), (fun _ => ⟨_, rfl, I0.size, _, Rw.new _ _ _, by rw [upd_other (by decide), hL8, if_neg (by decide)]⟩), (fun h => ⟨upd_mono (f8 (upd_ne h (by decide))).1, upd_mono (f8 (upd_ne h (by decide))).2.1, upd_mono (f8 (upd_ne h (by decide))).2.2⟩)⟩
    · obtain rfl := Option.some.inj ho
      have g6 := f6 (hd ⟨6, .data⟩ (by simp) rfl)
      have g7 := f7 (hd ⟨7, .data⟩ (by simp) rfl)
      have l5 := hd ⟨5, .chain⟩ (by simp) rfl
      have l7 := hd ⟨7, .data⟩ (by simp) rfl
      have g5 := f5 l5
      have g2 := f2 g5.2.2
      have l2 := g5.2.2
      obtain ⟨g6, -, -⟩ := g6
      subst g6
      obtain ⟨g3, e3, h3, cs, h5, h6⟩ := g7
      rw [hL, if_neg (by decide)] at h6
      subst h6
      subst e3
      obtain ⟨A7, c7, rfl⟩ := row_form g2
      obtain ⟨A9, d9, rfl, -⟩ := g5.1.form
      have a7 : (Value.slice A7 n c7).ownBlock = none ∨ (Value.slice A7 n c7).ownBlock ≠ some g3 := .inr (row_type g2 h5 (by decide)).symm
      have a9 : (Value.slice A9 h.rt.length d9).ownBlock = none ∨ (Value.slice A9 h.rt.length d9).ownBlock ≠ some g3 := .inr (row_type g5.1 h5 (by decide)).symm
      have c0 := h5.cell 0
      have c1 := h5.cell 1
      simp only [List.getElem?_toArray, List.getElem?_cons_zero, List.getElem?_cons_succ] at c0 c1
      have z0 := h5.frozen 0
      have z1 := h5.frozen 1
      have hput := (h5.put 0 (.slice A7 n c7)).put 1 (.slice A9 h.rt.length d9)
      refine wpOp_step rfl (fun K' hK => ?_)
      go_simp
      refine hK _ _ ?_
      exact ⟨_, _, _, _, _, _, _, _, rfl, ((I0.setCell (p := ⟨g3, 0, none⟩) (by show w2.heap.size ≤ g3; omega) _).setCell (p := ⟨g3, 1, none⟩) (by show w2.heap.size ≤ g3; omega) _), (kp f0), (kp f1), (fun _ => World.ownsRow.kept (World.ownsRow.kept g2 (put_any ww g3 0 _) a7) (put_any _ g3 1 _) a7), (kp f3), (kp f4), (fun _ => ⟨(g5.1.far (put_any ww g3 0 _) a9).far (put_any _ g3 1 _) a9, g5.2.1, upd_mono l2⟩), (fun h => ⟨(f6 (upd_ne h (by decide))).1, upd_mono (f6 (upd_ne h (by decide))).2.1, upd_mono (f6 (upd_ne h (by decide))).2.2⟩), (fun _ => ⟨g3, rfl, h3, _, hput, by rw [upd_self, if_pos rfl]; rfl⟩), (fun _ => ⟨upd_mono l7, upd_mono l5, upd_mono l2⟩)⟩
  case hdone =>
    rintro L ac ww hall ⟨t3, t5, t6, t7, t8, t9, t10, t11, rfl, I0, f0, f1, f2, f3, f4, f5, f6, f7, f8⟩
    have e0 := f0 (hall 0 (by decide))
    have e1 := f1 (hall 1 (by decide))
    have e2 := f2 (hall 2 (by decide))
    have e3 := f3 (hall 3 (by decide))
    have e4 := f4 (hall 4 (by decide))
    have e5 := f5 (hall 5 (by decide))
    have e6 := f6 (hall 6 (by decide))
    have e7 := f7 (hall 7 (by decide))
    have e8 := f8 (hall 8 (by decide))
    clear f0 f1 f2 f3 f4 f5 f6 f7 f8
    obtain ⟨g3, rfl, hg3, cs, BX, e9⟩ := e7
    rw [hall 8 (by decide), if_pos rfl] at e9
    subst e9
    obtain ⟨e6, -, -⟩ := e6
    subst e0 e1 e3 e4 e6
    obtain ⟨A7, c7, rfl⟩ := row_form e2
    have OR := e5.1
    obtain ⟨A9, d9, rfl, -⟩ := OR.form
    have SP := e5.2.1
    clear e5 e8 hall
    have S0 : MidH ww w2.heap.size (.slice A7 n c7) (.slice A9 h.rt.length d9) [] rvs 0 h :=
      ⟨rfl, Nat.zero_le _, HRV.out.1, by rw [HLC.out]; exact e2, fun j cl v hc hv => by simp at hv, OR, by simp [Sep]; exact SP⟩
    have AP : Apart (some g3) (Value.slice A7 n c7 :: Value.slice A9 h.rt.length d9 :: []) := by
      intro u hu
      simp only [List.mem_cons, List.not_mem_nil, or_false] at hu
      rcases hu with rfl | rfl
      · exact .inr (row_type e2 BX (by decide)).symm
      · exact .inr (row_type OR BX (by decide)).symm
    clear e2 OR SP
    have c0 := BX.cell 0
    have c1 := BX.cell 1
    simp only [List.getElem?_toArray, List.getElem?_cons_zero, List.getElem?_cons_succ] at c0 c1
    go_wp2_with fail
    go_loopw [15] (fun i wr => ∃ (k : Nat) (ovs : List Value), k ≤ n ∧ i = .int .i64 k ∧ MidH wr w2.heap.size (.slice A7 n c7) (.slice A9 h.rt.length d9) ovs rvs k h ∧ Apart (some g3) (Value.slice A7 n c7 :: Value.slice A9 h.rt.length d9 :: ovs) ∧ Rw wr g3 26 #[.slice A7 n c7, .slice A9 h.rt.length d9] ∧ Below w2.heap.size w2 wr) (fun i _ => n - (intOf i).toNat)
    case atStart => exact ⟨0, [], Nat.zero_le _, rfl, S0, AP, BX, I0⟩
    case round =>
      clear S0 AP BX I0 c0 c1
      obtain ⟨k, ovs, hk, rfl, S, AP, BX, IW⟩ := hrel
      have bw := B2.trans (IW.mono B2.size)
      by_cases hlt : k < n
      · have hck := List.getElem?_eq_getElem (show k < h.cs.length by rw [HLC.out]; exact hlt)
        generalize h.cs[k]'(by rw [HLC.out]; exact hlt) = cl at hck
        obtain ⟨A8, c8, R8, d8, q1, -, -, fA⟩ := S.form
        obtain ⟨g, hg0, hg1, hg2⟩ := fA (by rw [HLC.out]; omega)
        have hA7 : A7 = some ⟨g, 0, none⟩ := by
          have q1 := q1
          injection q1 with q1 _ _
          exact q1.trans hg0
        subst hA7
        clear q1 fA hg0
        obtain ⟨A1, m1, c1, x2, hm1, is1, fz⟩ := S.ref HLC.out hck (HRV.out.below bw)
        have is2 := is1.more bw.size
        have hm3 : m1 ≤ 1099511627776 := by
          have := is1.1
          have := H3.out cl (List.mem_of_getElem? hck)
          omega
        have x0 := BX.cell 0
        simp only [List.getElem?_toArray, List.getElem?_cons_zero] at x0
        have hlt' : (k : Int) < n := by omega
        have hbx := BX.lt
        have fzg := fz (k * 3 + 2)
        clear is1 fz hm1
        have HCK := Lib.hid hck
        have SS := Lib.hid S
        have AA := Lib.hid AP
        have BB := Lib.hid BX
        clear hck S AP BX
        go_upto_region 5 with fail
        refine wp_region_inv (by kernel_rfl) (by kernel_rfl) (fun L ac ww => ∃ t18 t19 t20 t21 t22 t23 t24 t25 t26 t27 t28 t29 : Value, ac = { tmps := #[heapV A n c R m d, Value.pointer (some { block := w.heap.size, off := 0 }), Value.pointer (some { block := w.heap.size + 1, off := 0 }), Value.pointer (some { block := g3, off := 0 }), Value.int IntKind.i64 ↑k, Value.pointer (some { block := w.heap.size, off := 0 }), Value.slice A n c, Value.slice (some { block := g, off := 0 }) n c7, Value.pointer (some { block := w.heap.size, off := 1 }), Value.slice R m d, Value.slice A9 h.rt.length d9, Value.agg #[Value.slice (some { block := g, off := 0 }) n c7, Value.slice A9 h.rt.length d9], Value.pointer (some { block := g3, off := 0 }), Value.slice (some { block := g, off := 0 }) n c7, Value.int IntKind.i64 ↑n, Value.int IntKind.i64 ↑k, Value.bool true, Value.int IntKind.i64 ↑k, t18, t19, t20, t21, t22, t23, t24, t25, t26, t27, t28, t29, u30, undef], defers := [] } ∧ (L 12 = false → Below wr.heap.size wr ww) ∧ (L 0 = true → t18 = .pointer (some ⟨g3, 0, none⟩)) ∧ (L 1 = true → t19 = .slice (some ⟨g, 0, none⟩) n c7) ∧ (L 2 = true → t20 = .int .i64 k) ∧ (L 3 = true → t21 = .pointer (some ⟨g3, 0, none⟩)) ∧ (L 4 = true → t22 = .slice (some ⟨g, 0, none⟩) n c7) ∧ (L 5 = true → t23 = .int .i64 k) ∧ (L 6 = true → t24 = .pointer (some ⟨g, k * 3, none⟩)) ∧ (L 7 = true → t25 = .pointer (some ⟨g, k * 3 + 2, none⟩)) ∧ (L 8 = true → t26 = .slice A1 m1 c1) ∧ (L 9 = true → L 12 = false → OwnI ww wr.heap.size t27 cl.r) ∧ (L 10 = true → t28 = .pointer (some ⟨g, k * 3, none⟩)) ∧ (L 11 = true → t29 = .pointer (some ⟨g, k * 3 + 2, none⟩) ∧ L 10 = true) ∧ (L 12 = true → (∀ q, q < 12 → L q = true) ∧ ∃ w5, Below wr.heap.size wr w5 ∧ OwnI w5 wr.heap.size t27 cl.r ∧ ww = w5.setCell ⟨g, k * 3 + 2, none⟩ t27)) ?h0 ?hstep ?hdone
        case h0 => exact ⟨_, _, _, _, _, _, _, _, _, _, _, _, rfl, fun _ => (Below.refl _ _).drew, (fun h => absurd h Bool.false_ne_true), (fun h => absurd h Bool.false_ne_true), (fun h => absurd h Bool.false_ne_true), (fun h => absurd h Bool.false_ne_true), (fun h => absurd h Bool.false_ne_true), (fun h => absurd h Bool.false_ne_true), (fun h => absurd h Bool.false_ne_true), (fun h => absurd h Bool.false_ne_true), (fun h => absurd h Bool.false_ne_true), (fun h => absurd h Bool.false_ne_true), (fun h => absurd h Bool.false_ne_true), (fun h => absurd h Bool.false_ne_true), (fun h => absurd h Bool.false_ne_true)⟩
        case hstep =>
          rintro L ac ww i o ho hL hd ⟨t18, t19, t20, t21, t22, t23, t24, t25, t26, t27, t28, t29, rfl, I0, f0, f1, f2, f3, f4, f5, f6, f7, f8, f9, f10, f11, f12⟩
          have hi : i < 13 := (Array.getElem?_eq_some_iff.1 ho).1
          obtain rfl | rfl | rfl | rfl | rfl | rfl | rfl | rfl | rfl | rfl | rfl | rfl | rfl : i = 0 ∨ i = 1 ∨ i = 2 ∨ i = 3 ∨ i = 4 ∨ i = 5 ∨ i = 6 ∨ i = 7 ∨ i = 8 ∨ i = 9 ∨ i = 10 ∨ i = 11 ∨ i = 12 := by omega
          · obtain rfl := Option.some.inj ho
            have hL12 : L 12 = false := by
              cases e : L 12
              · rfl
              · exact absurd ((f12 e).1 0 (by omega)) (by rw [hL]; decide)
            have J := I0 hL12
            refine wpOp_step rfl (fun K' hK => ?_)
            go_simp
            refine hK _ _ ?_
            exact ⟨_, _, _, _, _, _, _, _, _, _, _, _, rfl, (fun _ => J), (fun _ => rfl), (kp f1), (kp f2), (kp f3), (kp f4), (kp f5), (kp f6), (kp f7), (kp f8), (fun h _ => f9 (upd_ne h (by decide)) hL12), (kp f10), (fun h => ⟨(f11 (upd_ne h (by decide))).1, upd_mono (f11 (upd_ne h (by decide))).2⟩), (fun h => absurd ((f12 (upd_ne h (by decide))).1 0 (by omega)) (by rw [hL]; decide))⟩
          · obtain rfl := Option.some.inj ho
            have g0 := f0 (hd ⟨0, .data⟩ (by simp) rfl)
            subst g0
            have hL12 : L 12 = false := by
              cases e : L 12
              · rfl
              · exact absurd ((f12 e).1 1 (by omega)) (by rw [hL]; decide)
            have J := I0 hL12
            have z0 : ww.cell? ⟨g3, 0, none⟩ = some (.slice (some ⟨g, 0, none⟩) n c7) := (J.cell (p := ⟨g3, 0, none⟩) hbx).trans x0
            refine wpOp_step rfl (fun K' hK => ?_)
            go_simp
            refine hK _ _ ?_
            exact ⟨_, _, _, _, _, _, _, _, _, _, _, _, rfl, (fun _ => J), (kp f0), (fun _ => rfl), (kp f2), (kp f3), (kp f4), (kp f5), (kp f6), (kp f7), (kp f8), (fun h _ => f9 (upd_ne h (by decide)) hL12), (kp f10), (fun h => ⟨(f11 (upd_ne h (by decide))).1, upd_mono (f11 (upd_ne h (by decide))).2⟩), (fun h => absurd ((f12 (upd_ne h (by decide))).1 1 (by omega)) (by rw [hL]; decide))⟩
          · obtain rfl := Option.some.inj ho
            have hL12 : L 12 = false := by
              cases e : L 12
              · rfl
              · exact absurd ((f12 e).1 2 (by omega)) (by rw [hL]; decide)
            have J := I0 hL12
            refine wpOp_step rfl (fun K' hK => ?_)
            go_simp
            refine hK _ _ ?_
            exact ⟨_, _, _, _, _, _, _, _, _, _, _, _, rfl, (fun _ => J), (kp f0), (kp f1), (fun _ => rfl), (kp f3), (kp f4), (kp f5), (kp f6), (kp f7), (kp f8), (fun h _ => f9 (upd_ne h (by decide)) hL12), (kp f10), (fun h => ⟨(f11 (upd_ne h (by decide))).1, upd_mono (f11 (upd_ne h (by decide))).2⟩), (fun h => absurd ((f12 (upd_ne h (by decide))).1 2 (by omega)) (by rw [hL]; decide))⟩
          · obtain rfl := Option.some.inj ho
            have hL12 : L 12 = false := by
              cases e : L 12
              · rfl
              · exact absurd ((f12 e).1 3 (by omega)) (by rw [hL]; decide)
            have J := I0 hL12
            refine wpOp_step rfl (fun K' hK => ?_)
            go_simp
            refine hK _ _ ?_
            exact ⟨_, _, _, _, _, _, _, _, _, _, _, _, rfl, (fun _ => J), (kp f0), (kp f1), (kp f2), (fun _ => rfl), (kp f4), (kp f5), (kp f6), (kp f7), (kp f8), (fun h _ => f9 (upd_ne h (by decide)) hL12), (kp f10), (fun h => ⟨(f11 (upd_ne h (by decide))).1, upd_mono (f11 (upd_ne h (by decide))).2⟩), (fun h => absurd ((f12 (upd_ne h (by decide))).1 3 (by omega)) (by rw [hL]; decide))⟩
          · obtain rfl := Option.some.inj ho
            have g3 := f3 (hd ⟨3, .data⟩ (by simp) rfl)
            subst g3
            have hL12 : L 12 = false := by
              cases e : L 12
              · rfl
              · exact absurd ((f12 e).1 4 (by omega)) (by rw [hL]; decide)
            have J := I0 hL12
            have z0 : ww.cell? ⟨g3, 0, none⟩ = some (.slice (some ⟨g, 0, none⟩) n c7) := (J.cell (p := ⟨g3, 0, none⟩) hbx).trans x0
            refine wpOp_step rfl (fun K' hK => ?_)
            go_simp
            refine hK _ _ ?_
            exact ⟨_, _, _, _, _, _, _, _, _, _, _, _, rfl, (fun _ => J), (kp f0), (kp f1), (kp f2), (kp f3), (fun _ => rfl), (kp f5), (kp f6), (kp f7), (kp f8), (fun h _ => f9 (upd_ne h (by decide)) hL12), (kp f10), (fun h => ⟨(f11 (upd_ne h (by decide))).1, upd_mono (f11 (upd_ne h (by decide))).2⟩), (fun h => absurd ((f12 (upd_ne h (by decide))).1 4 (by omega)) (by rw [hL]; decide))⟩
          · obtain rfl := Option.some.inj ho
            have hL12 : L 12 = false := by
              cases e : L 12
              · rfl
              · exact absurd ((f12 e).1 5 (by omega)) (by rw [hL]; decide)
            have J := I0 hL12
            refine wpOp_step rfl (fun K' hK => ?_)
            go_simp
            refine hK _ _ ?_
            exact ⟨_, _, _, _, _, _, _, _, _, _, _, _, rfl, (fun _ => J), (kp f0), (kp f1), (kp f2), (kp f3), (kp f4), (fun _ => rfl), (kp f6), (kp f7), (kp f8), (fun h _ => f9 (upd_ne h (by decide)) hL12), (kp f10), (fun h => ⟨(f11 (upd_ne h (by decide))).1, upd_mono (f11 (upd_ne h (by decide))).2⟩), (fun h => absurd ((f12 (upd_ne h (by decide))).1 5 (by omega)) (by rw [hL]; decide))⟩
          · obtain rfl := Option.some.inj ho
            have g4 := f4 (hd ⟨4, .data⟩ (by simp) rfl)
            have g5 := f5 (hd ⟨5, .data⟩ (by simp) rfl)
            subst g4
            subst g5
            have hL12 : L 12 = false := by
              cases e : L 12
              · rfl
              · exact absurd ((f12 e).1 6 (by omega)) (by rw [hL]; decide)
            have J := I0 hL12
            refine wpOp_step rfl (fun K' hK => ?_)
            go_simp
            refine hK _ _ ?_
            exact ⟨_, _, _, _, _, _, _, _, _, _, _, _, rfl, (fun _ => J), (kp f0), (kp f1), (kp f2), (kp f3), (kp f4), (kp f5), (fun _ => rfl), (kp f7), (kp f8), (fun h _ => f9 (upd_ne h (by decide)) hL12), (kp f10), (fun h => ⟨(f11 (upd_ne h (by decide))).1, upd_mono (f11 (upd_ne h (by decide))).2⟩), (fun h => absurd ((f12 (upd_ne h (by decide))).1 6 (by omega)) (by rw [hL]; decide))⟩
          · obtain rfl := Option.some.inj ho
            have g6 := f6 (hd ⟨6, .data⟩ (by simp) rfl)
            subst g6
            have hL12 : L 12 = false := by
              cases e : L 12
              · rfl
              · exact absurd ((f12 e).1 7 (by omega)) (by rw [hL]; decide)
            have J := I0 hL12
            refine wpOp_step rfl (fun K' hK => ?_)
            go_simp
            refine hK _ _ ?_
            exact ⟨_, _, _, _, _, _, _, _, _, _, _, _, rfl, (fun _ => J), (kp f0), (kp f1), (kp f2), (kp f3), (kp f4), (kp f5), (kp f6), (fun _ => rfl), (kp f8), (fun h _ => f9 (upd_ne h (by decide)) hL12), (kp f10), (fun h => ⟨(f11 (upd_ne h (by decide))).1, upd_mono (f11 (upd_ne h (by decide))).2⟩), (fun h => absurd ((f12 (upd_ne h (by decide))).1 7 (by omega)) (by rw [hL]; decide))⟩
          · obtain rfl := Option.some.inj ho
            have g7 := f7 (hd ⟨7, .data⟩ (by simp) rfl)
            subst g7
            have hL12 : L 12 = false := by
              cases e : L 12
              · rfl
              · exact absurd ((f12 e).1 8 (by omega)) (by rw [hL]; decide)
            have J := I0 hL12
            have z0 : ww.cell? ⟨g, k * 3 + 2, none⟩ = some (.slice A1 m1 c1) := (J.cell (p := ⟨g, k * 3 + 2, none⟩) hg2).trans x2
            refine wpOp_step rfl (fun K' hK => ?_)
            go_simp
            refine hK _ _ ?_
            exact ⟨_, _, _, _, _, _, _, _, _, _, _, _, rfl, (fun _ => J), (kp f0), (kp f1), (kp f2), (kp f3), (kp f4), (kp f5), (kp f6), (kp f7), (fun _ => rfl), (fun h _ => f9 (upd_ne h (by decide)) hL12), (kp f10), (fun h => ⟨(f11 (upd_ne h (by decide))).1, upd_mono (f11 (upd_ne h (by decide))).2⟩), (fun h => absurd ((f12 (upd_ne h (by decide))).1 8 (by omega)) (by rw [hL]; decide))⟩
          · obtain rfl := Option.some.inj ho
            have g8 := f8 (hd ⟨8, .data⟩ (by simp) rfl)
            subst g8
            have hL12 : L 12 = false := by
              cases e : L 12
              · rfl
              · exact absurd ((f12 e).1 9 (by omega)) (by rw [hL]; decide)
            have J := I0 hL12
            refine wpOp_step rfl (fun K' hK => ?_)
            go_simp
            refine (cloneI_any A1 m1 c1 cl.r ww (is2.up J) hm3).mono ?_
            rintro e w' ⟨v1, rfl, o1, b5⟩
            refine hK _ _ ?_
            exact ⟨_, _, _, _, _, _, _, _, _, _, _, _, rfl, (fun _ => J.trans (b5.mono J.size)), (kp f0), (kp f1), (kp f2), (kp f3), (kp f4), (kp f5), (kp f6), (kp f7), (kp f8), (fun _ _ => o1.base J.size), (kp f10), (fun h => ⟨(f11 (upd_ne h (by decide))).1, upd_mono (f11 (upd_ne h (by decide))).2⟩), (fun h => absurd ((f12 (upd_ne h (by decide))).1 9 (by omega)) (by rw [hL]; decide))⟩
          · obtain rfl := Option.some.inj ho
            have g1 := f1 (hd ⟨1, .data⟩ (by simp) rfl)
            have g2 := f2 (hd ⟨2, .data⟩ (by simp) rfl)
            subst g1
            subst g2
            have hL12 : L 12 = false := by
              cases e : L 12
              · rfl
              · exact absurd ((f12 e).1 10 (by omega)) (by rw [hL]; decide)
            have J := I0 hL12
            refine wpOp_step rfl (fun K' hK => ?_)
            go_simp
            refine hK _ _ ?_
            exact ⟨_, _, _, _, _, _, _, _, _, _, _, _, rfl, (fun _ => J), (kp f0), (kp f1), (kp f2), (kp f3), (kp f4), (kp f5), (kp f6), (kp f7), (kp f8), (fun h _ => f9 (upd_ne h (by decide)) hL12), (fun _ => rfl), (fun h => ⟨(f11 (upd_ne h (by decide))).1, upd_mono (f11 (upd_ne h (by decide))).2⟩), (fun h => absurd ((f12 (upd_ne h (by decide))).1 10 (by omega)) (by rw [hL]; decide))⟩
          · obtain rfl := Option.some.inj ho
            have g10 := f10 (hd ⟨10, .data⟩ (by simp) rfl)
            subst g10
            have hL12 : L 12 = false := by
              cases e : L 12
              · rfl
              · exact absurd ((f12 e).1 11 (by omega)) (by rw [hL]; decide)
            have J := I0 hL12
            refine wpOp_step rfl (fun K' hK => ?_)
            go_simp
            refine hK _ _ ?_
            exact ⟨_, _, _, _, _, _, _, _, _, _, _, _, rfl, (fun _ => J), (kp f0), (kp f1), (kp f2), (kp f3), (kp f4), (kp f5), (kp f6), (kp f7), (kp f8), (fun h _ => f9 (upd_ne h (by decide)) hL12), (kp f10), (fun _ => ⟨rfl, upd_mono (hd ⟨10, .data⟩ (by simp) rfl)⟩), (fun h => absurd ((f12 (upd_ne h (by decide))).1 11 (by omega)) (by rw [hL]; decide))⟩
          · obtain rfl := Option.some.inj ho
            have g9 := f9 (hd ⟨9, .data⟩ (by simp) rfl)
            have g11 := f11 (hd ⟨11, .data⟩ (by simp) rfl)
            have l11 := Lib.hid (hd ⟨11, .data⟩ (by simp) rfl)
            have l10 := Lib.hid g11.2
            obtain ⟨g11, -⟩ := g11
            subst g11
            have J := I0 hL
            have o9 := g9 hL
            have hfz : ww.frozen? ⟨g, k * 3 + 2, none⟩ = false := (World.frozen?_of_block (J.block g hg2)).trans fzg
            have hcl : ww.cell? ⟨g, k * 3 + 2, none⟩ = some (.slice A1 m1 c1) := (J.cell (p := ⟨g, k * 3 + 2, none⟩) hg2).trans x2
            obtain ⟨A2, c2, rfl⟩ := row_form o9
            refine wpOp_step rfl (fun K' hK => ?_)
            go_simp
            refine hK _ _ ?_
            exact ⟨_, _, _, _, _, _, _, _, _, _, _, _, rfl, (fun h => absurd h (by rw [upd_self]; decide)), (kp f0), (kp f1), (kp f2), (kp f3), (kp f4), (kp f5), (kp f6), (kp f7), (kp f8), (fun _ h => absurd h (by rw [upd_self]; decide)), (kp f10), (fun h => ⟨(f11 (upd_ne h (by decide))).1, upd_mono (f11 (upd_ne h (by decide))).2⟩), (fun _ => ⟨fun q hq => by
              obtain rfl | rfl | rfl | rfl | rfl | rfl | rfl | rfl | rfl | rfl | rfl | rfl : q = 0 ∨ q = 1 ∨ q = 2 ∨ q = 3 ∨ q = 4 ∨ q = 5 ∨ q = 6 ∨ q = 7 ∨ q = 8 ∨ q = 9 ∨ q = 10 ∨ q = 11 := by omega
              all_goals first | exact upd_mono l10.out | exact upd_mono l11.out | exact upd_mono (hd ⟨_, .phase⟩ (by simp) rfl), ww, J, o9, rfl⟩)⟩
        case hdone =>
          rintro L ac ww hall ⟨t18, t19, t20, t21, t22, t23, t24, t25, t26, t27, t28, t29, rfl, I0, f0, f1, f2, f3, f4, f5, f6, f7, f8, f9, f10, f11, f12⟩
          have e0 := f0 (hall 0 (by decide))
          have e1 := f1 (hall 1 (by decide))
          have e2 := f2 (hall 2 (by decide))
          have e3 := f3 (hall 3 (by decide))
          have e4 := f4 (hall 4 (by decide))
          have e5 := f5 (hall 5 (by decide))
          have e6 := f6 (hall 6 (by decide))
          have e7 := f7 (hall 7 (by decide))
          have e8 := f8 (hall 8 (by decide))
          have e9 := f9 (hall 9 (by decide))
          have e10 := f10 (hall 10 (by decide))
          have e11 := f11 (hall 11 (by decide))
          have e12 := f12 (hall 12 (by decide))
          clear f0 f1 f2 f3 f4 f5 f6 f7 f8 f9 f10 f11 f12
          obtain ⟨-, w5, b5, o5, rfl⟩ := e12
          have hb1 : (⟨g, k * 3 + 2, none⟩ : Addr).block = g := rfl
          have hI : Below w2.heap.size w2 (w5.setCell ⟨g, k * 3 + 2, none⟩ t27) := (IW.trans (b5.mono IW.size)).setCell (p := ⟨g, k * 3 + 2, none⟩) hg1 _
          have hnew : ∀ u : Value, (∀ q, u.ownBlock = some q → q < wr.heap.size) → t27.ownBlock = none ∨ t27.ownBlock ≠ u.ownBlock := fun u hu => by
            cases e : t27.ownBlock with
            | none => exact .inl rfl
            | some q =>
              right
              intro e2
              have a1 := (World.ownsRow.lt o5 q e).1
              have a2 := hu q e2.symm
              omega
          have hS := (SS.out.below b5 (Nat.le_refl _)).next HLC.out HCK.out (o5.base (by have := IW.size; omega)) (fun u hu => hnew u (fun q hq => (SS.out.blocks hu hq).2))
          have hg3g : g3 ≠ g := fun e => by
            rcases AA.out _ (List.mem_cons_self ..) with h1 | h1
            · cases h1
            · exact h1 (by rw [e]; rfl)
          have hAP : Apart (some g3) (Value.slice (some ⟨g, 0, none⟩) n c7 :: Value.slice A9 h.rt.length d9 :: (ovs ++ [t27])) := by
            intro u hu
            rw [List.mem_cons, List.mem_cons, List.mem_append, List.mem_singleton] at hu
            rcases hu with rfl | rfl | hu | rfl
            · exact AA.out _ (by simp)
            · exact AA.out _ (by simp)
            · exact AA.out _ (by simp [hu])
            · cases e : u.ownBlock with
              | none => exact .inl rfl
              | some q =>
                right
                intro e2
                have a1 := (World.ownsRow.lt o5 q e).1
                have a2 := Option.some.inj e2
                omega
          have hBX : Rw (w5.setCell ⟨g, k * 3 + 2, none⟩ t27) g3 26 #[.slice (some ⟨g, 0, none⟩) n c7, .slice A9 h.rt.length d9] := (BB.out.keep b5 hbx).other hg3g t27
          obtain ⟨e11, -⟩ := e11
          clear e0 e1 e2 e3 e4 e5 e6 e7 e8 e9 e10 e11 hall I0 IW bw SS AA BB hnew b5 o5 hb1
          go_wp2_with fail
          go_roundw
          case rel => exact ⟨k + 1, ovs ++ [t27], by omega, by go_num, hS, hAP, hBX, hI⟩
          case measure => simp [intOf]; omega
      · obtain rfl : k = n := by omega
        have own := S.done HLC.out.symm
        have x0 := BX.cell 0
        have x1 := BX.cell 1
        simp only [List.getElem?_toArray, List.getElem?_cons_zero, List.getElem?_cons_succ] at x0 x1
        have q3 := Q2.keep IW hz
        have r2 : wr.frozen? ⟨w.heap.size + 1, 0, none⟩ = false := q3.frozen 0
        have r3 : wr.frozen? ⟨w.heap.size + 1, 1, none⟩ = false := q3.frozen 1
        have r4 : wr.cell? ⟨w.heap.size + 1, 0, none⟩ = some (.slice none 0 0) := q3.cell 0
        have r5 : wr.cell? ⟨w.heap.size + 1, 1, none⟩ = some (.slice none 0 0) := q3.cell 1
        have r6 : ((wr.setCell ⟨w.heap.size + 1, 0, none⟩ (.slice A7 k c7)).setCell ⟨w.heap.size + 1, 1, none⟩ (.slice A9 h.rt.length d9)).cell? ⟨w.heap.size + 1, 0, none⟩ = some (.slice A7 k c7) := ((q3.put 0 (.slice A7 k c7)).put 1 (.slice A9 h.rt.length d9)).cell 0
        have r7 : ((wr.setCell ⟨w.heap.size + 1, 0, none⟩ (.slice A7 k c7)).setCell ⟨w.heap.size + 1, 1, none⟩ (.slice A9 h.rt.length d9)).cell? ⟨w.heap.size + 1, 1, none⟩ = some (.slice A9 h.rt.length d9) := ((q3.put 0 (.slice A7 k c7)).put 1 (.slice A9 h.rt.length d9)).cell 1
        have D := Lib.hid (OwnH.out (w := w) (g := w.heap.size + 1) ⟨ovs, own⟩ (by omega) bw (by omega))
        clear own S AP BX q3 bw IW B2 Q1 Q2
        go_wp2_with fail
        exact bodyPost_ret (v := .agg #[.slice A7 k c7, .slice A9 h.rt.length d9]) (by simp [results, Tryd.results54, go_sem, *]) rfl ⟨_, _, rfl, D.out.1, D.out.2⟩
end Go.Proofs.YtiojoailjiojjaaDoor

namespace Go.Proofs.YtiojoailjiojjaaDoor
open Go.RowKit
/-- a heap with counts of the call's own, and a number -/
def GaveCtI (w : World) (h : Hp) (l : List Int) (x : Int) (e : Ending) (w' : World) : Prop := ∃ vc vr vk, e = .returned (.tuple #[.agg #[vc, vr, vk], .int .i64 x]) ∧ OwnC w' w.heap.size vc vr vk h l ∧ Below w.heap.size w w'
namespace Hps
/-- cells without those of a list -/
def zapL (cs : List Cl) (l : List Int) : List Cl := l.foldl (fun cs x => cs.set x.toNat zeroCl) cs
theorem zapL_snoc (cs : List Cl) (l : List Int) (x : Int) : zapL cs (l ++ [x]) = (zapL cs l).set x.toNat zeroCl := by simp [zapL, List.foldl_append]
theorem zapL_len (l : List Int) : ∀ cs : List Cl, (zapL cs l).length = cs.length := by
  induction l with
  | nil => intro cs; rfl
  | cons x l ih =>
    intro cs
    show (zapL (cs.set x.toNat zeroCl) l).length = _
    rw [ih, List.length_set]
theorem zapL_at (l : List Int) : ∀ (cs : List Cl), (∀ x ∈ l, 0 ≤ x) → ∀ k : Nat, (zapL cs l)[k]? = if (k : Int) ∈ l then cs[k]?.map (fun _ => zeroCl) else cs[k]? := by
  induction l with
  | nil => intro cs _ k; simp [zapL]
  | cons x l ih =>
    intro cs hx k
    show (zapL (cs.set x.toNat zeroCl) l)[k]? = _
    rw [ih _ (fun y hy => hx y (by simp [hy])) k, List.getElem?_set]
    have h0 := hx x (by simp)
    by_cases e : x.toNat = k
    · have e2 : (k : Int) = x := by omega
      rw [if_pos e, e]
      by_cases q : k < cs.length
      · simp [e2, q]
      · simp [e2, q]
    · have e2 : ¬ (k : Int) = x := by omega
      rw [if_neg e]
      simp [e2]
theorem ccTo_free {h x : Hp} {k f : Nat} (hE : ccTo h k = (x, f)) (hu : usedAt x.cs k = false) : ccTo h (k + 1) = (x, f) := by
  rw [ccTo, hE, ccStep, if_neg (by rw [hu]; decide)]
theorem ccTo_used {h x : Hp} {k f : Nat} (hE : ccTo h k = (x, f)) (hu : usedAt x.cs k = true) : ccTo h (k + 1) = (dropH x (deadL x (k : Int)), f + (deadL x (k : Int)).count true) := by
  rw [ccTo, hE, ccStep, if_pos hu]
theorem usedN_le (h : Hp) : usedN h ≤ h.cs.length := by rw [usedN_eq]; exact List.countP_le_length
end Hps
end Go.Proofs.YtiojoailjiojjaaDoor

namespace Go.Proofs.YtiojoailjiojjaaDoor
open Go.RowKit
set_option maxRecDepth 100000
namespace Hps
theorem zap_drop {cs : List Cl} {D : List Bool} (hl : D.length = cs.length) (h64 : cs.length ≤ 64) : zapL cs (numsB (Bm.wordN D true)) = dropL cs D := by
  apply List.ext_getElem?
  intro k
  rw [zapL_at _ _ fun x hx => by obtain ⟨j, h1, _⟩ := mem_numsB.1 hx; omega]
  rcases Nat.lt_or_ge k cs.length with hk | hk
  · have hc := List.getElem?_eq_getElem hk
    rw [dropL_at _ _ _ _ hc, hc]
    by_cases q : D[k]? = some true
    · rw [if_pos q, if_pos (mem_numsB.2 ⟨k, rfl, by omega, by rw [Bm.wordN_bit]; exact decide_eq_true q⟩)]
      rfl
    · rw [if_neg q, if_neg]
      intro hm
      obtain ⟨j, h1, _, h3⟩ := mem_numsB.1 hm
      obtain rfl : k = j := by omega
      rw [Bm.wordN_bit] at h3
      exact q (of_decide_eq_true h3)
  · rw [List.getElem?_eq_none (show (dropL cs D).length ≤ k by rw [dropL_len]; exact hk), List.getElem?_eq_none hk]
    split <;> rfl
end Hps
set_option maxHeartbeats 4000000 in
theorem collectCycles_any (A R K : Option Addr) (n c m d p q : Nat) (h : Hp) (l : List Int) (w : World) (hT : TzT w) (hs : HS w w.heap.size A n R m h) (hk : IS w w.heap.size K p l) (hn : n ≤ 1099511627776) (hm : m ≤ 1099511627776) (hp : p ≤ 1099511627776) (hnc : n ≤ c) (hmd : m ≤ d) :
    Calls Tryd.prog 17 #[ctV A n c R m d K p q] w (GaveCtI w (Hps.cyclesH h l).1.1 (Hps.cyclesH h l).1.2 (Hps.cyclesH h l).2) := by
  have hlc := hs.cells.1
  have hlr := hs.roots.1
  have b2 : Below w.heap.size w ((w.alloc (.cells #[.slice A n c, .slice R m d, .slice K p q] 38)).alloc (.cells #[.slice none 0 0, .slice none 0 0, .slice none 0 0] 38)) := ((Below.refl w.heap.size w).alloc (Nat.le_refl _) _).alloc (by simp) _
  have q1 := (Rw.new w 38 #[.slice A n c, .slice R m d, .slice K p q]).alloc (.cells #[.slice none 0 0, .slice none 0 0, .slice none 0 0] 38)
  have q3 := Rw.new (w.alloc (.cells #[.slice A n c, .slice R m d, .slice K p q] 38)) 38 #[.slice none 0 0, .slice none 0 0, .slice none 0 0]
  simp only [World.size_alloc] at q3
  have hT2 := hT.below b2
  have s2 := hs.up b2
  have k2 := hk.up b2
  go_enter Tryd.func17, Tryd.ntmps17
  go_upto_region 1 with fail
  generalize ((w.alloc (.cells #[.slice A n c, .slice R m d, .slice K p q] 38)).alloc (.cells #[.slice none 0 0, .slice none 0 0, .slice none 0 0] 38)) = w2 at b2 q1 q3 hT2 s2 k2 ⊢
  have x0 : w2.cell? ⟨w.heap.size, 0, none⟩ = some (.slice A n c) := q1.cell 0
  have x1 : w2.cell? ⟨w.heap.size, 1, none⟩ = some (.slice R m d) := q1.cell 1
  have x2 : w2.cell? ⟨w.heap.size, 2, none⟩ = some (.slice K p q) := q1.cell 2
  go_wp2_with fail
  refine (countedValid_any _ _ _ _ _ _ _ _ _ h l _ s2 k2 hn hm hp hnc hmd).mono ?_
  clear k2
  obtain ⟨r, hok⟩ : ∃ r, Hps.okCt h l = r := ⟨_, rfl⟩
  rw [hok]
  rintro e w4 ⟨rfl, b4⟩
  replace q1 := q1.keep b4 q1.lt
  replace q3 := q3.keep b4 q3.lt
  replace hT2 := hT2.below b4
  replace s2 := s2.up b4
  replace b2 := b2.trans (b4.mono b2.size)
  clear x0 x1 x2 b4
  have x0 : w4.cell? ⟨w.heap.size, 0, none⟩ = some (.slice A n c) := q1.cell 0
  have x1 : w4.cell? ⟨w.heap.size, 1, none⟩ = some (.slice R m d) := q1.cell 1
  have x2 : w4.cell? ⟨w.heap.size, 2, none⟩ = some (.slice K p q) := q1.cell 2
  have hsz4 := q3.lt
  cases r
  · have HF := Lib.hid (show Hps.cyclesH h l = ((Hps.zeroH, []), -1) by rw [Hps.cyclesH, hok]; rfl)
    clear hok hT2 s2
    have r2 : (w4).frozen? ⟨w.heap.size + 1, 0, none⟩ = false := q3.frozen 0
    have r3 : (w4).frozen? ⟨w.heap.size + 1, 1, none⟩ = false := q3.frozen 1
    have r4 : (w4).frozen? ⟨w.heap.size + 1, 2, none⟩ = false := q3.frozen 2
    have r5 : (w4).cell? ⟨w.heap.size + 1, 0, none⟩ = some (.slice none 0 0) := q3.cell 0
    have r6 : (w4).cell? ⟨w.heap.size + 1, 1, none⟩ = some (.slice none 0 0) := q3.cell 1
    have r7 : (w4).cell? ⟨w.heap.size + 1, 2, none⟩ = some (.slice none 0 0) := q3.cell 2
    have q4 := ((q3.put 0 (.slice none 0 0)).put 1 (.slice none 0 0)).put 2 (.slice none 0 0)
    have r8 : ((((w4).setCell ⟨w.heap.size + 1, 0, none⟩ (.slice none 0 0)).setCell ⟨w.heap.size + 1, 1, none⟩ (.slice none 0 0)).setCell ⟨w.heap.size + 1, 2, none⟩ (.slice none 0 0)).cell? ⟨w.heap.size + 1, 0, none⟩ = some (.slice none 0 0) := q4.cell 0
    have r9 : ((((w4).setCell ⟨w.heap.size + 1, 0, none⟩ (.slice none 0 0)).setCell ⟨w.heap.size + 1, 1, none⟩ (.slice none 0 0)).setCell ⟨w.heap.size + 1, 2, none⟩ (.slice none 0 0)).cell? ⟨w.heap.size + 1, 1, none⟩ = some (.slice none 0 0) := q4.cell 1
    have r10 : ((((w4).setCell ⟨w.heap.size + 1, 0, none⟩ (.slice none 0 0)).setCell ⟨w.heap.size + 1, 1, none⟩ (.slice none 0 0)).setCell ⟨w.heap.size + 1, 2, none⟩ (.slice none 0 0)).cell? ⟨w.heap.size + 1, 2, none⟩ = some (.slice none 0 0) := q4.cell 2
    have D := Lib.hid (OwnC.out (w := w) (g := w.heap.size + 1) (own_zeroC w4 w4.heap.size (Nat.le_refl _)) (by omega) (b2) (by omega))
    clear q1 q3 q4 b2 x0 x1 x2
    go_wp2_with fail
    exact bodyPost_ret (v := .tuple #[.agg #[.slice none 0 0, .slice none 0 0, .slice none 0 0], .int .i64 (-1)]) (by simp [results, Tryd.results17, go_sem, *]) rfl ⟨_, _, _, by rw [HF.out], by rw [HF.out]; exact D.out.1, D.out.2⟩
  have HF := Lib.hid (show Hps.cyclesH h l = (((Hps.ccTo h n).1, Hps.countsL (Hps.ccTo h n).1), ((Hps.ccTo h n).2 : Int)) by rw [Hps.cyclesH, if_pos hok, hlc])
  have HV := Lib.hid (Hps.okCt_iff.1 hok).1
  have HCC : Hid (∀ k, Hps.Cc h (Hps.ccTo h k).1 (Hps.ccTo h k).2 k) := Lib.hid fun k => Hps.cc_to HV.out k
  have hn40 := (Hps.valid_small HV.out).1
  have h3 := (Hps.valid_small HV.out).2.2
  have hmr := (Hps.valid_small HV.out).2.1
  rw [hlc] at hn40
  have HUS := Lib.hid (show Hps.usedN h ≤ 40 by have := Hps.usedN_le h; omega)
  have q3b := Lib.hid q3
  clear hok
  go_wp2_with fail
  refine (cloneHeap_any _ _ _ _ _ _ h _ s2 (by omega) (by omega) (fun cl hcl => by have := h3 cl hcl; omega)).mono ?_
  rintro e w5 ⟨vc, vr, rfl, ow, b5⟩
  obtain ⟨A5, c5, R5, d5, rfl, rfl, -⟩ := ow.form
  rw [hlc, hlr] at ow ⊢
  obtain ⟨rvs, S0⟩ := BoxSt.of ow b5
  have B2K := Lib.hid b2
  clear q1 q3 x0 x1 x2 b5 ow s2 b2 h3
  go_upto_region 4 with fail
  generalize w5.alloc (.cells #[.slice A5 n c5, .slice R5 m d5] 26) = w6 at S0 ⊢
  generalize w5.heap.size = b at S0 ⊢
  clear w5
  have v0 : w6.cell? ⟨b, 0, none⟩ = some (.slice A5 n c5) := S0.box.cell 0
  go_wp2_with fail
  go_loopw [5, 20] (fun fr i wr => ∃ (k f : Nat) (x : Hp) (rvs : List Value), k ≤ n ∧ i = .int .i64 k ∧ fr = .int .i64 f ∧ Hid (Hps.ccTo h k = (x, f)) ∧ BoxSt w4 wr b (.slice A5 n c5) (.slice R5 m d5) rvs x) (fun _ i _ => n - (intOf i).toNat)
  case atStart => exact ⟨0, 0, h, rvs, Nat.zero_le _, rfl, rfl, Lib.hid rfl, S0⟩
  case round =>
    clear S0 rvs v0
    obtain ⟨k, f, x, rvs, hk, rfl, rfl, HE, S⟩ := hrel
    have HC := HCC.out k
    rw [HE.out] at HC
    have hxl := HC.len
    simp only at hxl
    have HXV := Lib.hid HC.ok
    have hfl : f ≤ 40 := by
      have h1 := HC.cnt
      have h2 := HUS.out
      simp only at h1
      omega
    have x0 : wr.cell? ⟨b, 0, none⟩ = some (.slice A5 n c5) := S.box.cell 0
    have x1 : wr.cell? ⟨b, 1, none⟩ = some (.slice R5 m d5) := S.box.cell 1
    have hbl := S.box.lt
    clear HC
    by_cases hlt : k < n
    · obtain ⟨cl, hcl⟩ : ∃ cl, x.cs[k]? = some cl := ⟨_, List.getElem?_eq_getElem (show k < x.cs.length by omega)⟩
      obtain ⟨gc, v, e4, hgc1, hgc2, -, -, y0, y1, y2, fz⟩ := S.own.cell_at hcl
      subst e4
      have hlt' : (k : Int) < n := by omega
      cases hu : cl.u
      · have HN := Lib.hid (Hps.ccTo_free HE.out (show Hps.usedAt x.cs k = false by rw [Hps.usedAt, hcl]; exact hu))
        rw [hu] at y0
        clear hcl hu y1 y2 fz
        go_wp2_with fail
        go_roundw
        case rel => exact ⟨k + 1, f, x, rvs, by omega, by go_num, rfl, HN, S⟩
        case measure => simp [intOf]; omega
      · have hua : Hps.usedAt x.cs k = true := Hps.usedAt_iff.2 ⟨cl, hcl, hu⟩
        have HN := Lib.hid (Hps.ccTo_used HE.out hua)
        have HD := Lib.hid (deadSet_any (some ⟨gc, 0, none⟩) R5 n c5 m d5 k x wr (hT2.below S.low) S.own.reads HXV.out hua)
        have hDl : (Hps.deadL x (k : Int)).length = n := by rw [Hps.deadL_len]; omega
        have HZ := Lib.hid (Hps.zap_drop (cs := x.cs) (D := Hps.deadL x (k : Int)) (by omega) (by omega))
        have HPC := Lib.hid (Hps.live_count (bs := Hps.deadL x (k : Int)) hDl (by omega))
        have hlv : Hps.liveTo (Hps.deadL x (k : Int)) n = (Hps.deadL x (k : Int)).count true := by rw [Hps.liveTo, List.take_of_length_le (by omega)]
        rw [hlv] at HPC
        have hf2 : f + (Hps.deadL x (k : Int)).count true ≤ 40 := by
          have h1 := (HCC.out (k + 1)).cnt
          rw [HN.out] at h1
          have h2 := HUS.out
          simp only at h1
          omega
        obtain ⟨V, hV⟩ : ∃ V, Bm.wordN (Hps.deadL x (k : Int)) true = V := ⟨_, rfl⟩
        have hVl : V < 18446744073709551616 := by rw [← hV]; exact Bm.wordN_lt _ _ (by omega)
        have HBIT : Hid (∀ i, V.testBit i = true → i < n) := Lib.hid fun i hi => by
          rw [← hV, Bm.wordN_bit, decide_eq_true_eq] at hi
          have := (List.getElem?_eq_some_iff.1 hi).1
          omega
        rw [hV] at HD HZ HPC
        obtain ⟨ct, hct⟩ : ∃ ct, (Hps.deadL x (k : Int)).count true = ct := ⟨_, rfl⟩
        rw [hct] at HN HPC hf2
        have hwr : IntKind.i64.wrap ((f : Int) + ct) = (f : Int) + ct := IntWalk.i64_in _ (by omega)
        rw [hu] at y0
        clear hcl hua hDl hlv hV hct hu y1 y2 fz
        go_wp2_with fail
        refine HD.out.mono ?_
        rintro e w7 ⟨rfl, b7⟩
        replace S := S.up b7
        have HM := Lib.hid (numbers_any V w7 (hT2.below S.low) hVl)
        have HNB := Lib.hid (fun (y : Int) (hy : y ∈ Hps.numsB V) => Hps.mem_numsB.1 hy)
        have hnl := Hps.nums_len V
        obtain ⟨N, hN⟩ : ∃ N, Hps.numsB V = N := ⟨_, rfl⟩
        rw [hN] at HM HNB hnl HZ
        have hgc7 := b7.size
        clear HD hN b7 x0 x1 y0
        go_wp2_with fail
        refine HM.out.mono ?_
        rintro e w8 ⟨nv, rfl, on, b8⟩
        obtain ⟨A7, c7, e7, _⟩ := on.form
        subst e7
        obtain ⟨pp, hpp⟩ : ∃ pp, N.length = pp := ⟨_, rfl⟩
        have HP := Lib.hid hpp
        rw [hpp] at on hnl
        rw [hpp]
        replace S := S.up b8
        have hne : (Value.slice A7 pp c7).ownBlock = none ∨ (Value.slice A7 pp c7).ownBlock ≠ some gc := .inr fun e => by have := (World.ownsRow.lt on gc e).1; omega
        have HNE := Lib.hid hne
        have HCT := Lib.hid (fun ww => count_any V ww hVl)
        rw [HPC.out] at HCT
        clear HM hpp b8 hne
        go_wp2_with fail
        go_loopw [36] (fun i wr => ∃ (j : Nat) (rvs : List Value), j ≤ pp ∧ i = .int .i64 j ∧ BoxSt w4 wr b (.slice (some ⟨gc, 0, none⟩) n c5) (.slice R5 m d5) rvs ⟨Hps.zapL x.cs (N.take j), x.rt⟩ ∧ OwnI wr w7.heap.size (.slice A7 pp c7) N) (fun i _ => pp - (intOf i).toNat)
        case atStart => exact ⟨0, rvs, Nat.zero_le _, rfl, S, on⟩
        case round =>
          clear S rvs on
          obtain ⟨j, rvs, hj, rfl, S, on⟩ := hrel
          have x0 : wr.cell? ⟨b, 0, none⟩ = some (.slice (some ⟨gc, 0, none⟩) n c5) := S.box.cell 0
          by_cases hlj : j < pp
          · obtain ⟨g7, o7, y, rfl, hg7, hy, d7⟩ := on.reads.at_ hlj
            obtain ⟨z, rfl, _, hzb⟩ := HNB.out y (List.mem_of_getElem? hy)
            have hzn := HBIT.out z hzb
            have hzl : (Hps.zapL x.cs (N.take j)).length = n := by rw [Hps.zapL_len]; omega
            obtain ⟨old, hold⟩ : ∃ old, (Hps.zapL x.cs (N.take j))[z]? = some old := ⟨_, List.getElem?_eq_getElem (show z < _ by rw [hzl]; exact hzn)⟩
            obtain ⟨g9, v, e9, _, _, -, -, y0, y1, y2, fz⟩ := S.own.cell_at hold
            injection e9 with e9
            injection e9 with e9
            subst e9
            have f0 := fz (z * 3)
            have f1 := fz (z * 3 + 1)
            have f2 := fz (z * 3 + 2)
            have SN := S.cell (cl := Hps.zeroCl) (rv := .slice none 0 0) hzl hold (World.ownsRow_nil _ _ _ _) (fun _ _ => .inl rfl) (.inl rfl)
            have HTS := Lib.hid (show Hps.zapL x.cs (N.take (j + 1)) = (Hps.zapL x.cs (N.take j)).set z Hps.zeroCl by rw [take_snocI hy, Hps.zapL_snoc]; rfl)
            rw [← HTS.out] at SN
            have SH := Lib.hid SN
            have on2 := Lib.hid (((on.far (put_any wr gc (z * 3) (.bool false)) HNE.out).far (put_any _ gc (z * 3 + 1) (.int .i64 0)) HNE.out).far (put_any _ gc (z * 3 + 2) (.slice none 0 0)) HNE.out)
            have hlj' : (j : Int) < pp := by omega
            have hzn' : (z : Int) < n := by omega
            clear hy hzb hold hzl S SN fz on
            go_wp2_with fail
            go_roundw
            case rel => exact ⟨j + 1, _, by omega, by go_num, SH.out, on2.out⟩
            case measure => simp [intOf]; omega
          · obtain rfl : j = pp := by omega
            rw [List.take_of_length_le (by rw [HP.out]; omega), HZ.out] at S
            have SH := Lib.hid S
            clear S
            go_wp2_with fail
            refine (HCT.out _).mono ?_
            rintro e w9 ⟨rfl, rfl⟩
            go_wp2_with fail
            go_roundw
            case rel => exact ⟨k + 1, f + ct, _, rvs, by omega, by go_num, by go_num, HN, SH.out⟩
            case measure => simp [intOf]; omega
    · obtain rfl : k = n := by omega
      rw [HE.out] at HF
      simp only at HF
      obtain ⟨w6, hw6e⟩ : ∃ w6, wr = w6 := ⟨_, rfl⟩
      subst hw6e
      have v0 := x0
      have v1 := x1
      have q3 := q3b.out.keep S.low hsz4
      have b6 := B2K.out.trans (S.low.mono B2K.out.size)
      have hrl := q3.lt
      have hw6 := b6.size
      have hcs : HS wr wr.heap.size A5 k R5 m x := S.own.reads
      have HCO := Lib.hid (show Hps.countsH x = Hps.countsL x by rw [Hps.countsH, HXV.out]; rfl)
      clear x0 x1 hlt
      go_upto_region 16 with fail
      obtain ⟨hcc5, hdd5⟩ : k ≤ c5 ∧ m ≤ d5 := by
        obtain ⟨_, _, _, _, e1, e2, h1, h2, -⟩ := S.own.form
        injection e1 with _ a1 a2
        injection e2 with _ a3 a4
        omega
      refine wp_region_inv (by kernel_rfl) (by kernel_rfl) (fun L ac ww => ∃ t3 t51 t52 t53 t54 t55 : Value, ac = { tmps := #[ctV A k c R m d K p q, Value.pointer (some { block := w.heap.size, off := 0 }), Value.pointer (some { block := w.heap.size + 1, off := 0 }), t3, Value.pointer (some { block := b, off := 0 }), Value.int IntKind.i64 ↑f, u6, u7, undef, u9, Value.agg #[Value.slice A k c, Value.slice R m d, Value.slice K p q], Value.bool true, Value.bool false, undef, Value.pointer (some { block := w.heap.size, off := 0 }), Value.agg #[Value.slice A k c, Value.slice R m d], Value.agg #[Value.slice A5 k c5, Value.slice R5 m d5], Value.pointer (some { block := b, off := 0 }), Value.slice A5 k c5, Value.int IntKind.i64 ↑k, Value.int IntKind.i64 ↑k, Value.bool false, u22, u23, u24, u25, u26, u27, u28, u29, u30, u31, u32, u33, u34, u35, u36, u37, u38, u39, u40, u41, u42, u43, u44, u45, u46, u47, u48, u49, u50, t51, t52, t53, t54, t55], defers := [] } ∧ (L 5 = false → Below wr.heap.size wr ww) ∧ (L 0 = true → t51 = .agg #[.slice A5 k c5, .slice R5 m d5]) ∧ (L 1 = true → t52 = .agg #[.slice A5 k c5, .slice R5 m d5]) ∧ (L 2 = true → ∃ K5 p5 q5, t53 = .slice K5 p5 q5 ∧ (L 5 = false → OwnI ww wr.heap.size t53 (Hps.countsL x))) ∧ (L 3 = true → t54 = .agg #[.slice A5 k c5, .slice R5 m d5, t53] ∧ L 2 = true) ∧ (L 4 = true → t55 = .int .i64 f) ∧ (L 5 = true → (∀ q, q < 4 → L q = true) ∧ ∃ wp K5 p5 q5, t53 = .slice K5 p5 q5 ∧ ww = ((((wp).setCell ⟨w.heap.size + 1, 0, none⟩ (.slice A5 k c5)).setCell ⟨w.heap.size + 1, 1, none⟩ (.slice R5 m d5)).setCell ⟨w.heap.size + 1, 2, none⟩ (t53)) ∧ Below wr.heap.size wr wp ∧ OwnI wp wr.heap.size t53 (Hps.countsL x)) ∧ (L 6 = true → t3 = .int .i64 f ∧ L 5 = true)) ?h0 ?hstep ?hdone
      case h0 => exact ⟨_, _, _, _, _, _, rfl, fun _ => (Below.refl _ _).drew, (fun h => absurd h Bool.false_ne_true), (fun h => absurd h Bool.false_ne_true), (fun h => absurd h Bool.false_ne_true), (fun h => absurd h Bool.false_ne_true), (fun h => absurd h Bool.false_ne_true), (fun h => absurd h Bool.false_ne_true), (fun h => absurd h Bool.false_ne_true)⟩
      case hstep =>
        rintro L ac ww i o ho hL hd ⟨t3, t51, t52, t53, t54, t55, rfl, I0, f0, f1, f2, f3, f4, f5, f6⟩
        have hi : i < 7 := (Array.getElem?_eq_some_iff.1 ho).1
        obtain rfl | rfl | rfl | rfl | rfl | rfl | rfl : i = 0 ∨ i = 1 ∨ i = 2 ∨ i = 3 ∨ i = 4 ∨ i = 5 ∨ i = 6 := by omega
        · obtain rfl := Option.some.inj ho
          have hL5 : L 5 = false := by
            cases e : L 5
            · rfl
            · exact absurd ((f5 e).1 0 (by decide)) (by rw [hL]; decide)
          have J := I0 hL5
          have z0 : ww.cell? ⟨b, 0, none⟩ = some (.slice A5 k c5) := (J.cell (p := ⟨b, 0, none⟩) hbl).trans v0
          have z1 : ww.cell? ⟨b, 1, none⟩ = some (.slice R5 m d5) := (J.cell (p := ⟨b, 1, none⟩) hbl).trans v1
          refine wpOp_step rfl (fun K' hK => ?_)
          go_simp
          refine hK _ _ ?_
          exact ⟨_, _, _, _, _, _, rfl, (fun _ => J), (fun _ => rfl), (kp f1), (fun h => by
            obtain ⟨K5, p5, q5, e8, r8⟩ := f2 (upd_ne h (by decide))
            exact ⟨K5, p5, q5, e8, fun h5 => r8 (by rw [upd_other (by decide)] at h5; exact h5)⟩), (fun h => ⟨(f3 (upd_ne h (by decide))).1, upd_mono (f3 (upd_ne h (by decide))).2⟩), (kp f4), (fun h => absurd hL5 (by rw [upd_ne h (by decide)]; decide)), (fun h => absurd (f6 (upd_ne h (by decide))).2 (by rw [hL5]; decide))⟩
        · obtain rfl := Option.some.inj ho
          have hL5 : L 5 = false := by
            cases e : L 5
            · rfl
            · exact absurd ((f5 e).1 1 (by decide)) (by rw [hL]; decide)
          have J := I0 hL5
          have z0 : ww.cell? ⟨b, 0, none⟩ = some (.slice A5 k c5) := (J.cell (p := ⟨b, 0, none⟩) hbl).trans v0
          have z1 : ww.cell? ⟨b, 1, none⟩ = some (.slice R5 m d5) := (J.cell (p := ⟨b, 1, none⟩) hbl).trans v1
          refine wpOp_step rfl (fun K' hK => ?_)
          go_simp
          refine hK _ _ ?_
          exact ⟨_, _, _, _, _, _, rfl, (fun _ => J), (kp f0), (fun _ => rfl), (fun h => by
            obtain ⟨K5, p5, q5, e8, r8⟩ := f2 (upd_ne h (by decide))
            exact ⟨K5, p5, q5, e8, fun h5 => r8 (by rw [upd_other (by decide)] at h5; exact h5)⟩), (fun h => ⟨(f3 (upd_ne h (by decide))).1, upd_mono (f3 (upd_ne h (by decide))).2⟩), (kp f4), (fun h => absurd hL5 (by rw [upd_ne h (by decide)]; decide)), (fun h => absurd (f6 (upd_ne h (by decide))).2 (by rw [hL5]; decide))⟩
        · obtain rfl := Option.some.inj ho
          have g1 := f1 (hd ⟨1, .data⟩ (by simp) rfl)
          subst g1
          have hL5 : L 5 = false := by
            cases e : L 5
            · rfl
            · exact absurd ((f5 e).1 2 (by decide)) (by rw [hL]; decide)
          have J := I0 hL5
          refine wpOp_step rfl (fun K' hK => ?_)
          go_simp
          refine (refCounts_any A5 R5 k c5 m d5 x ww (hcs.up J) (by omega) (by omega) hcc5 hdd5).mono ?_
          rw [HCO.out]
          rintro e w' ⟨v1, rfl, o1, b5⟩
          obtain ⟨K5, q5, e8, -⟩ := o1.form
          refine hK _ _ ?_
          exact ⟨_, _, _, _, _, _, rfl, (fun _ => J.trans (b5.mono J.size)), (kp f0), (kp f1), (fun _ => ⟨K5, _, q5, e8, fun _ => o1.base J.size⟩), (fun h => absurd (f3 (upd_ne h (by decide))).2 (by rw [hL]; decide)), (kp f4), (fun h => absurd hL5 (by rw [upd_ne h (by decide)]; decide)), (fun h => absurd (f6 (upd_ne h (by decide))).2 (by rw [hL5]; decide))⟩
        · obtain rfl := Option.some.inj ho
          have g0 := f0 (hd ⟨0, .data⟩ (by simp) rfl)
          have g2 := f2 (hd ⟨2, .data⟩ (by simp) rfl)
          subst g0
          have hL5 : L 5 = false := by
            cases e : L 5
            · rfl
            · exact absurd ((f5 e).1 3 (by decide)) (by rw [hL]; decide)
          have J := I0 hL5
          have l3 := Lib.hid (hd ⟨2, .data⟩ (by simp) rfl)
          obtain ⟨K5, p5, q5, e8, r8⟩ := g2
          subst e8
          refine wpOp_step rfl (fun K' hK => ?_)
          go_simp
          refine hK _ _ ?_
          exact ⟨_, _, _, _, _, _, rfl, (fun _ => J), (kp f0), (kp f1), (fun _ => ⟨K5, p5, q5, rfl, fun h7 => r8 (by rw [upd_other (by decide)] at h7; exact h7)⟩), (fun _ => ⟨rfl, upd_mono l3.out⟩), (kp f4), (fun h => absurd hL5 (by rw [upd_ne h (by decide)]; decide)), (fun h => absurd (f6 (upd_ne h (by decide))).2 (by rw [hL5]; decide))⟩
        · obtain rfl := Option.some.inj ho
          refine wpOp_step rfl (fun K' hK => ?_)
          go_simp
          refine hK _ _ ?_
          exact ⟨_, _, _, _, _, _, rfl, (fun h => I0 (by rw [upd_other (by decide)] at h; exact h)), (kp f0), (kp f1), (fun h => by
            obtain ⟨K5, p5, q5, e8, r8⟩ := f2 (upd_ne h (by decide))
            exact ⟨K5, p5, q5, e8, fun h5 => r8 (by rw [upd_other (by decide)] at h5; exact h5)⟩), (fun h => ⟨(f3 (upd_ne h (by decide))).1, upd_mono (f3 (upd_ne h (by decide))).2⟩), (fun _ => rfl), (fun h => by
            obtain ⟨a1, a2⟩ := f5 (upd_ne h (by decide))
            exact ⟨fun q hq => upd_mono (a1 q hq), a2⟩), (fun h => ⟨(f6 (upd_ne h (by decide))).1, upd_mono (f6 (upd_ne h (by decide))).2⟩)⟩
        · obtain rfl := Option.some.inj ho
          have g3 := f3 (hd ⟨3, .data⟩ (by simp) rfl)
          have lq : Hid (∀ q, q < 4 → L q = true) := Lib.hid (by
            intro q hq
            obtain rfl | rfl | rfl | rfl : q = 0 ∨ q = 1 ∨ q = 2 ∨ q = 3 := by omega
            · exact hd ⟨0, .phase⟩ (by simp) rfl
            · exact hd ⟨1, .phase⟩ (by simp) rfl
            · exact hd ⟨2, .phase⟩ (by simp) rfl
            · exact hd ⟨3, .phase⟩ (by simp) rfl)
          have J := I0 hL
          obtain ⟨e9, -⟩ := g3
          subst e9
          obtain ⟨K5, p5, q5, e8, r8⟩ := f2 (lq.out 2 (by decide))
          subst e8
          have o8 := r8 hL
          have P := q3.keep J hrl
          have zf0 : ww.frozen? ⟨w.heap.size + 1, 0, none⟩ = false := P.frozen 0
          have zf1 : ww.frozen? ⟨w.heap.size + 1, 1, none⟩ = false := P.frozen 1
          have zf2 : ww.frozen? ⟨w.heap.size + 1, 2, none⟩ = false := P.frozen 2
          have zc0 : ww.cell? ⟨w.heap.size + 1, 0, none⟩ = some (.slice none 0 0) := P.cell 0
          have zc1 : ww.cell? ⟨w.heap.size + 1, 1, none⟩ = some (.slice none 0 0) := P.cell 1
          have zc2 : ww.cell? ⟨w.heap.size + 1, 2, none⟩ = some (.slice none 0 0) := P.cell 2
          refine wpOp_step rfl (fun K' hK => ?_)
          go_simp
          refine hK _ _ ?_
          exact ⟨_, _, _, _, _, _, rfl, (fun h => absurd h (by rw [upd_self]; decide)), (kp f0), (kp f1), (fun _ => ⟨K5, p5, q5, rfl, fun h => absurd h (by rw [upd_self]; decide)⟩), (fun _ => ⟨rfl, upd_mono (lq.out 2 (by decide))⟩), (kp f4), (fun _ => ⟨fun q hq => upd_mono (lq.out q hq), ww, K5, p5, q5, rfl, rfl, J, o8⟩), (fun h => absurd (f6 (upd_ne h (by decide))).2 (by rw [hL]; decide))⟩
        · obtain rfl := Option.some.inj ho
          have g4 := f4 (hd ⟨4, .data⟩ (by simp) rfl)
          subst g4
          have l5 := Lib.hid (hd ⟨5, .chain⟩ (by simp) rfl)
          refine wpOp_step rfl (fun K' hK => ?_)
          go_simp
          refine hK _ _ ?_
          exact ⟨_, _, _, _, _, _, rfl, (fun h => absurd l5.out (by rw [upd_other (by decide)] at h; rw [h]; decide)), (kp f0), (kp f1), (fun h => by
            obtain ⟨K5, p5, q5, e8, r8⟩ := f2 (upd_ne h (by decide))
            exact ⟨K5, p5, q5, e8, fun h5 => absurd l5.out (by rw [upd_other (by decide)] at h5; rw [h5]; decide)⟩), (fun h => ⟨(f3 (upd_ne h (by decide))).1, upd_mono (f3 (upd_ne h (by decide))).2⟩), (kp f4), (fun h => by
            obtain ⟨a1, a2⟩ := f5 (upd_ne h (by decide))
            exact ⟨fun q hq => upd_mono (a1 q hq), a2⟩), (fun _ => ⟨rfl, upd_mono l5.out⟩)⟩
      case hdone =>
        rintro L ac ww hall ⟨t3, t51, t52, t53, t54, t55, rfl, I0, f0, f1, f2, f3, f4, f5, f6⟩
        have e0 := f0 (hall 0 (by decide))
        have e1 := f1 (hall 1 (by decide))
        have e2 := f2 (hall 2 (by decide))
        have e3 := f3 (hall 3 (by decide))
        have e4 := f4 (hall 4 (by decide))
        have e5 := f5 (hall 5 (by decide))
        have e6 := f6 (hall 6 (by decide))
        clear f0 f1 f2 f3 f4 f5 f6
        obtain ⟨-, wp, K5, p5, q5, rfl, rfl, r1, r9⟩ := e5
        obtain ⟨rfl, -⟩ := e6
        have hlo6 := S.low.size
        have OC := OwnC.of S.ownH r1 r9 hlo6
        have P := q3.keep r1 hrl
        have bP := b6.trans (r1.mono hw6)
        have P4 := ((P.put 0 (.slice A5 k c5)).put 1 (.slice R5 m d5)).put 2 (.slice K5 p5 q5)
        have s8 : ((((wp).setCell ⟨w.heap.size + 1, 0, none⟩ (.slice A5 k c5)).setCell ⟨w.heap.size + 1, 1, none⟩ (.slice R5 m d5)).setCell ⟨w.heap.size + 1, 2, none⟩ (.slice K5 p5 q5)).cell? ⟨w.heap.size + 1, 0, none⟩ = some (.slice A5 k c5) := P4.cell 0
        have s9 : ((((wp).setCell ⟨w.heap.size + 1, 0, none⟩ (.slice A5 k c5)).setCell ⟨w.heap.size + 1, 1, none⟩ (.slice R5 m d5)).setCell ⟨w.heap.size + 1, 2, none⟩ (.slice K5 p5 q5)).cell? ⟨w.heap.size + 1, 1, none⟩ = some (.slice R5 m d5) := P4.cell 1
        have s10 : ((((wp).setCell ⟨w.heap.size + 1, 0, none⟩ (.slice A5 k c5)).setCell ⟨w.heap.size + 1, 1, none⟩ (.slice R5 m d5)).setCell ⟨w.heap.size + 1, 2, none⟩ (.slice K5 p5 q5)).cell? ⟨w.heap.size + 1, 2, none⟩ = some (.slice K5 p5 q5) := P4.cell 2
        have D := Lib.hid (OwnC.out (w := w) (g := w.heap.size + 1) OC (by omega) bP (by omega))
        clear I0 e0 e1 e2 e3 e4 hall r1 r9 P P4 OC bP S q3 b6 v0 v1
        go_wp2_with fail
        exact bodyPost_ret (v := .tuple #[.agg #[.slice A5 k c5, .slice R5 m d5, .slice K5 p5 q5], .int .i64 f]) (by simp [results, Tryd.results17, go_sem, *]) rfl ⟨_, _, _, by rw [HF.out], by rw [HF.out]; exact D.out.1, D.out.2⟩
end Go.Proofs.YtiojoailjiojjaaDoor

namespace Go.Proofs.YtiojoailjiojjaaDoor
open Go.RowKit
set_option maxRecDepth 100000
namespace Hps
theorem outTo_len {h : Hp} {s : List Bool} (h3 : ∀ c ∈ h.cs, c.r.length ≤ 3) : ∀ i, i ≤ h.cs.length → (outTo h s i).length ≤ h.rt.length + 3 * i
  | 0, _ => by rw [outTo]; omega
  | i + 1, hi => by
    have ih := outTo_len (s := s) h3 i (by omega)
    have hc := List.getElem?_eq_getElem (show i < h.cs.length by omega)
    by_cases e : s[i]? = some true
    · rw [outTo_in e]
      omega
    · rw [outTo_out e hc, List.length_append]
      have := h3 _ (List.mem_of_getElem? hc)
      omega
theorem cnt_take {rs : List Int} {j : Nat} {x : Int} (hx : rs[j]? = some x) (L : List Int) (k : Nat) : (L ++ rs.take (j + 1)).count (k : Int) = (L ++ rs.take j).count (k : Int) + (if x = (k : Int) then 1 else 0) := by
  rw [take_snocI hx, ← List.append_assoc, List.count_append (l₁ := L ++ rs.take j), List.count_singleton]
  by_cases e : x = (k : Int)
  · simp [e]
  · simp [e]
theorem trial_take {h : Hp} {s : List Bool} {k : Nat} (hk : k < h.cs.length) : (trialL h s).take (k + 1) = (trialL h s).take k ++ [trialAt h s k] := take_snocI (trialL_at hk)
end Hps
set_option maxHeartbeats 4000000 in
theorem mTrialCounts_any (A R F : Option Addr) (n c m d q e : Nat) (h : Hp) (bs : List Bool) (w : World) (hs : HS w w.heap.size A n R m h) (ho : OS w w.heap.size F q bs) (hn : n ≤ 1099511627776) (hm : m ≤ 1099511627776) (hq : q ≤ 1099511627776) :
    Calls Tryd.prog 47 #[heapV A n c R m d, .slice F q e] w (GaveI w (Hps.trialH h bs)) := by
  have hlc := hs.cells.1
  have hlb := ho.1
  have b0 : Below w.heap.size w ((w.alloc (.cells #[.slice A n c, .slice R m d] 26)).alloc (.cells #[] 3)) := ((Below.refl _ _).alloc (Nat.le_refl _) _).alloc (by simp) _
  have r0 := hs.up b0
  have f0 := ho.up b0
  have hw0 := (Rw.new w 26 #[.slice A n c, .slice R m d]).alloc (.cells #[] 3)
  have on0 := own_noneI (w.alloc (.cells #[.slice A n c, .slice R m d] 26)) (w.heap.size + 1) (by simp)
  have hz0 : (w.alloc (.cells #[.slice A n c, .slice R m d] 26)).heap.size = w.heap.size + 1 := by simp
  rw [hz0] at on0
  cases hv : Hps.validH h
  · have HR := Lib.hid (show Hps.trialH h bs = [] by rw [Hps.trialH, hv]; rfl)
    have HV := Lib.hid hv
    clear hv
    go_enter Tryd.func47, Tryd.ntmps47
    go_wp2_with fail
    refine (mHeapValid_any _ _ _ _ _ _ h _ r0 hn hm).mono ?_
    rw [HV.out]
    rintro e w1 ⟨rfl, b1⟩
    have bb1 := b0.trans (b1.mono b0.size)
    have on1 := on0.below b1 (Nat.le_refl _)
    go_wp2_with fail
    go_ret
    exact ⟨_, rfl, by rw [HR.out]; exact on1.base (by omega), bb1⟩
  · obtain ⟨s1, s2, s3⟩ := Hps.valid_small hv
    have HV := Lib.hid hv
    have HS3 := Lib.hid s3
    have hlr := hs.roots.1
    by_cases hqn : q = n
    · subst hqn
      have HRT : Hid ((∀ k : Nat, k < q → bs[k]? = some true → Hps.usedAt h.cs k = true) → Hps.trialH h bs = Hps.trialL h bs) := Lib.hid fun hk => by
        have : Hps.okSet h bs = true := Hps.okSet_iff.2 ⟨by omega, fun k hk2 => hk k (by have := (List.getElem?_eq_some_iff.1 hk2).1; omega) hk2⟩
        rw [Hps.trialH, hv, this]
        rfl
      have HRF : Hid (∀ k : Nat, bs[k]? = some true → Hps.usedAt h.cs k = false → Hps.trialH h bs = []) := Lib.hid fun k h1 h2 => by
        have : Hps.okSet h bs = false := by
          cases e : Hps.okSet h bs
          · rfl
          · rw [(Hps.okSet_iff.1 e).2 k h1] at h2
            cases h2
        rw [Hps.trialH, hv, this]
        rfl
      have HLC := Lib.hid hlc
      have HLB := Lib.hid hlb
      have HTL := Lib.hid (show (Hps.trialL h bs).length = q by rw [Hps.trialL_len, hlc])
      have HOL : Hid (∀ i, i ≤ q → (Hps.outTo h bs i).length ≤ 4 + 3 * i) := Lib.hid fun i hi => by
        have := Hps.outTo_len (s := bs) s3 i (by omega)
        omega
      clear hv s3 hlb hlc
      go_enter Tryd.func47, Tryd.ntmps47
      go_wp2_with fail
      refine (mHeapValid_any _ _ _ _ _ _ h _ r0 hn hm).mono ?_
      rw [HV.out]
      rintro e w1 ⟨rfl, b1⟩
      have bb1 := b0.trans (b1.mono b0.size)
      have hw1 := hw0.keep b1 hw0.lt
      have on1 := on0.below b1 (Nat.le_refl _)
      have z0 : w1.cell? ⟨w.heap.size, 0, none⟩ = some (.slice A q c) := hw1.cell 0
      have sz1 : w.heap.size + 1 ≤ w1.heap.size := by have := hw1.lt; omega
      have HT0 := Lib.hid (show ([] : List Int) = (Hps.trialL h bs).take 0 by simp)
      rw [HT0.out] at on1
      have hq40 : q ≤ 40 := by have := HLC.out; omega
      clear hw0 on0 b1 b0
      go_wp2_with fail
      go_loopw [5, 6] (fun o i wr => ∃ k : Nat, k ≤ q ∧ i = .int .i64 k ∧ OwnI wr (w.heap.size + 1) o ((Hps.trialL h bs).take k) ∧ Hid (∀ i : Nat, i < k → bs[i]? = some true → Hps.usedAt h.cs i = true) ∧ Rw wr w.heap.size 26 #[.slice A q c, .slice R m d] ∧ Below w.heap.size w wr) (fun _ i _ => q - (intOf i).toNat)
      case atStart => exact ⟨0, Nat.zero_le _, rfl, on1, Lib.hid (fun i hi => by omega), hw1, bb1⟩
      case round =>
        clear on1 hw1 bb1 z0 sz1 r0 f0 HT0
        obtain ⟨k, hk, rfl, ow, HP, hw5, bb⟩ := hrel
        obtain ⟨w5, hww⟩ : ∃ w5, w5 = wr := ⟨_, rfl⟩
        subst hww
        obtain ⟨Ao, co, eo, _⟩ := ow.form
        generalize hlo : ((Hps.trialL h bs).take k).length = lo at eo
        subst eo
        have hlo2 : lo ≤ 40 := by rw [← hlo, List.length_take]; omega
        have z0 : w5.cell? ⟨w.heap.size, 0, none⟩ = some (.slice A q c) := hw5.cell 0
        have z1 : w5.cell? ⟨w.heap.size, 1, none⟩ = some (.slice R m d) := hw5.cell 1
        have sz5 := hw5.lt
        by_cases hlt : k < q
        · obtain ⟨gf, of_, b, rfl, hgf, hb, c1⟩ := (ho.below bb).at_ hlt
          obtain ⟨gc, oc, cl, A', m', cc, e1, hgc, hcl, d1, d2, d3, hmc, hi⟩ := (hs.cells.below bb).at_ hlt
          subst e1
          have hlt' : (k : Int) < q := by omega
          have HTK0 := Lib.hid (Hps.trial_take (h := h) (s := bs) (k := k) (by rw [HLC.out]; exact hlt))
          cases b
          · have HTA := Lib.hid (Hps.trial_not (h := h) (s := bs) (k := k) (by rw [hb]; simp))
            have HTK := Lib.hid (show (Hps.trialL h bs).take (k + 1) = (Hps.trialL h bs).take k ++ [-1] by rw [HTK0.out, HTA.out])
            have HP2 : Hid (∀ i : Nat, i < k + 1 → bs[i]? = some true → Hps.usedAt h.cs i = true) := Lib.hid fun i hi2 hbi => by
              rcases Nat.lt_or_ge i k with h1 | h1
              · exact HP.out i h1 hbi
              · obtain rfl : i = k := by omega
                rw [hb] at hbi
                cases hbi
            have oa := World.ownsRow.alloc ow (.cells #[.int .i64 (-1)] 3)
            have rr : IS (w5.alloc (.cells #[.int .i64 (-1)] 3)) (w5.alloc (.cells #[.int .i64 (-1)] 3)).heap.size (some ⟨w5.heap.size, 0, none⟩) 1 [-1] := (own_oneI w5 (-1) 0 (Nat.zero_le _)).reads
            have hsz : w.heap.size + 1 ≤ (w5.alloc (.cells #[.int .i64 (-1)] 3)).heap.size := by simp; omega
            have hwa := hw5.alloc (.cells #[.int .i64 (-1)] 3)
            have ba := bb.alloc bb.size (.cells #[.int .i64 (-1)] 3)
            clear hb hcl HTA
            go_wp2_with (at_builtin; refine wpList_appendI rfl (.tmp 102) (.tmp 104) rfl (w.heap.size + 1) _ ((Hps.trialL h bs).take k) rfl oa (some ⟨w5.heap.size, 0, none⟩) 1 1 _ [-1] rfl rr (by simp; omega) hsz ?_; intro v6 w6 o6 g6 _s6)
            have hw6 := Rw.far hwa g6 (row_ne oa (by omega))
            have bb6 := ba.grown g6 (by simp; omega) (fun kk hk => by have := (World.ownsRow.lt oa kk hk).1; omega)
            rw [← HTK.out] at o6
            obtain ⟨A6, c6, e6, _⟩ := o6.form
            generalize hl6 : ((Hps.trialL h bs).take (k + 1)).length = l6 at e6
            subst e6
            clear oa rr g6 hwa ba
            go_roundw
            case rel => exact ⟨k + 1, by omega, by go_num, o6, HP2, hw6, bb6⟩
            case measure => simp [intOf]; omega
          · cases hu : cl.u
            · have HR := Lib.hid (HRF.out k hb (by rw [Hps.usedAt, hcl]; exact hu))
              have oz := own_noneI w5 w.heap.size bb.size
              have bz := bb.alloc bb.size (.cells #[] 3)
              rw [hu] at d1
              clear hb hcl hu
              go_wp2_with fail
              go_ret
              exact ⟨_, rfl, by rw [HR.out]; exact oz, bz⟩
            · have HP2 : Hid (∀ i : Nat, i < k + 1 → bs[i]? = some true → Hps.usedAt h.cs i = true) := Lib.hid fun i hi2 hbi => by
                rcases Nat.lt_or_ge i k with h1 | h1
                · exact HP.out i h1 hbi
                · obtain rfl : i = k := by omega
                  exact Hps.usedAt_iff.2 ⟨cl, hcl, hu⟩
              have HBK := Lib.hid hb
              have hro := hs.roots.below bb
              have hcs5 := hs.cells.below bb
              have hos5 := ho.below bb
              rw [hu] at d1
              clear hb hcl hu
              go_wp2_with fail
              go_loopw [7, 8] (fun nn i wr => ∃ j : Nat, j ≤ m ∧ i = .int .i64 j ∧ nn = .int .i64 (((h.rt.take j).count (k : Int) : Nat) : Int) ∧ w5 = wr) (fun _ i _ => m - (intOf i).toNat)
              case atStart => exact ⟨0, Nat.zero_le _, rfl, by simp, rfl⟩
              case round =>
                obtain ⟨j, hj, rfl, rfl, rfl⟩ := hrel
                have hcl := Hps.count_le_len (h.rt.take j) (k : Int)
                rw [List.length_take] at hcl
                by_cases hlj : j < m
                · obtain ⟨gr, or, x, e2, hgr, hx, e0⟩ := hro.at_ hlj
                  subst e2
                  have hlj' : (j : Int) < m := by omega
                  have HN := Lib.hid (Hps.cnt_take hx [] k)
                  simp only [List.nil_append] at HN
                  obtain ⟨ct, hct⟩ : ∃ ct, (h.rt.take j).count (k : Int) = ct := ⟨_, rfl⟩
                  have HCT := Lib.hid hct
                  rw [hct] at HN hcl
                  rw [HCT.out]
                  have hwr : IntKind.i64.wrap ((ct : Int) + 1) = (ct : Int) + 1 := IntWalk.i64_in _ (by omega)
                  clear hx hct
                  by_cases hxk : x = (k : Int)
                  · have HN2 := HN.out
                    rw [if_pos hxk] at HN2
                    have HN3 := Lib.hid HN2
                    have hxk' : (x == (k : Int)) = true := by rw [beq_iff_eq]; exact hxk
                    clear HN HN2 hxk
                    go_wp2_with fail
                    go_roundw
                    case rel => exact ⟨j + 1, by omega, by go_num, by rw [HN3.out, show ((ct + 1 : Nat) : Int) = (ct : Int) + 1 by omega], trivial⟩
                    case measure => simp [intOf]; omega
                  · have HN2 := HN.out
                    rw [if_neg hxk, Nat.add_zero] at HN2
                    have HN3 := Lib.hid HN2
                    have hxk' : (x == (k : Int)) = false := by rw [beq_eq_false_iff_ne]; exact hxk
                    clear HN HN2 hxk
                    go_wp2_with fail
                    go_roundw
                    case rel => exact ⟨j + 1, by omega, by go_num, by rw [HN3.out] <;> simp, trivial⟩
                    case measure => simp [intOf]; omega
                · obtain rfl : j = m := by omega
                  have HJ := Lib.hid (show h.rt.take j = Hps.outTo h bs 0 by rw [List.take_of_length_le (by omega)]; rfl)
                  rw [HJ.out]
                  clear hcl
                  go_wp2_with fail
                  go_loopw [7, 9] (fun nn i wr => ∃ i' : Nat, i' ≤ q ∧ i = .int .i64 i' ∧ nn = .int .i64 (((Hps.outTo h bs i').count (k : Int) : Nat) : Int) ∧ w5 = wr) (fun _ i _ => q - (intOf i).toNat)
                  case atStart => exact ⟨0, Nat.zero_le _, rfl, rfl, rfl⟩
                  case round =>
                    obtain ⟨i', hi', rfl, rfl, rfl⟩ := hrel
                    by_cases hli : i' < q
                    · obtain ⟨gi, oi, ci, A2, m2, c2, e1, hgi, hci, i1, i2, i3, hm2, hii⟩ := hcs5.at_ hli
                      injection e1 with e1
                      injection e1 with e1a e1b
                      subst e1a e1b
                      obtain ⟨gf', of', bi, e1, _, hbi, j1⟩ := hos5.at_ hli
                      injection e1 with e1
                      injection e1 with e1a e1b
                      subst e1a e1b
                      have hli' : (i' : Int) < q := by omega
                      have hm3 : m2 ≤ 3 := by have := HS3.out ci (List.mem_of_getElem? hci); have := hii.1; omega
                      have hm2l := hii.1
                      have hol := HOL.out i' (by omega)
                      cases bi
                      · have HO := Lib.hid (Hps.outTo_out (h := h) (s := bs) (i := i') (by rw [hbi]; simp) hci)
                        have HZ := Lib.hid (show (Hps.outTo h bs i').count (k : Int) = (Hps.outTo h bs i' ++ ci.r.take 0).count (k : Int) by simp)
                        clear hbi hci
                        go_wp2_with fail
                        go_loopw [7, 10] (fun nn jv wr => ∃ j : Nat, j ≤ m2 ∧ jv = .int .i64 j ∧ nn = .int .i64 (((Hps.outTo h bs i' ++ ci.r.take j).count (k : Int) : Nat) : Int) ∧ w5 = wr) (fun _ jv _ => m2 - (intOf jv).toNat)
                        case atStart => exact ⟨0, Nat.zero_le _, rfl, by rw [HZ.out], rfl⟩
                        case round =>
                          obtain ⟨j, hj, rfl, rfl, rfl⟩ := hrel
                          have hcl := Hps.count_le_len (Hps.outTo h bs i' ++ ci.r.take j) (k : Int)
                          rw [List.length_append, List.length_take] at hcl
                          by_cases hlj : j < m2
                          · obtain ⟨gr, or, x, e2, hgr, hx, e0⟩ := hii.at_ hlj
                            subst e2
                            have hlj' : (j : Int) < m2 := by omega
                            have HN := Lib.hid (Hps.cnt_take hx (Hps.outTo h bs i') k)
                            obtain ⟨ct, hct⟩ : ∃ ct, (Hps.outTo h bs i' ++ ci.r.take j).count (k : Int) = ct := ⟨_, rfl⟩
                            have HCT := Lib.hid hct
                            rw [hct] at HN hcl
                            rw [HCT.out]
                            have hwr : IntKind.i64.wrap ((ct : Int) + 1) = (ct : Int) + 1 := IntWalk.i64_in _ (by omega)
                            clear hx hct
                            by_cases hxk : x = (k : Int)
                            · have HN2 := HN.out
                              rw [if_pos hxk] at HN2
                              have HN3 := Lib.hid HN2
                              have hxk' : (x == (k : Int)) = true := by rw [beq_iff_eq]; exact hxk
                              clear HN HN2 hxk
                              go_wp2_with fail
                              go_roundw
                              case rel => exact ⟨j + 1, by omega, by go_num, by rw [HN3.out, show ((ct + 1 : Nat) : Int) = (ct : Int) + 1 by omega], trivial⟩
                              case measure => simp [intOf]; omega
                            · have HN2 := HN.out
                              rw [if_neg hxk, Nat.add_zero] at HN2
                              have HN3 := Lib.hid HN2
                              have hxk' : (x == (k : Int)) = false := by rw [beq_eq_false_iff_ne]; exact hxk
                              clear HN HN2 hxk
                              go_wp2_with fail
                              go_roundw
                              case rel => exact ⟨j + 1, by omega, by go_num, by rw [HN3.out] <;> simp, trivial⟩
                              case measure => simp [intOf]; omega
                          · obtain rfl : j = m2 := by omega
                            have HE := Lib.hid (show (Hps.outTo h bs i' ++ ci.r.take j).count (k : Int) = (Hps.outTo h bs (i' + 1)).count (k : Int) by rw [HO.out, List.take_of_length_le (by omega)])
                            rw [HE.out]
                            clear hcl
                            go_wp2_with fail
                            go_roundw
                            case rel => exact ⟨i' + 1, by omega, by go_num, rfl, trivial⟩
                            case measure => simp [intOf]; omega
                      · have HO := Lib.hid (Hps.outTo_in (h := h) (s := bs) (i := i') hbi)
                        clear hbi hci
                        go_wp2_with fail
                        go_loopw [7, 10] (fun nn jv wr => jv = .int .i64 0 ∧ nn = .int .i64 (((Hps.outTo h bs i').count (k : Int) : Nat) : Int) ∧ w5 = wr) (fun _ _ _ => 0)
                        case atStart => exact ⟨rfl, rfl, rfl⟩
                        case round =>
                          obtain ⟨rfl, rfl, rfl⟩ := hrel
                          rw [← HO.out]
                          by_cases hm0 : m2 = 0
                          · subst hm0
                            go_wp2_with fail
                            go_roundw
                            case rel => exact ⟨i' + 1, by omega, by go_num, rfl, trivial⟩
                            case measure => simp [intOf]; omega
                          · have hm0' : (0 : Int) < m2 := by omega
                            go_wp2_with fail
                            go_roundw
                            case rel => exact ⟨i' + 1, by omega, by go_num, rfl, trivial⟩
                            case measure => simp [intOf]; omega
                    · obtain rfl : i' = q := by omega
                      have HTA := Lib.hid (show Hps.trialAt h bs k = (((Hps.outTo h bs i').count (k : Int) : Nat) : Int) by rw [Hps.trialAt, if_pos HBK.out, Hps.outOf, HLC.out])
                      obtain ⟨ct, hct⟩ : ∃ ct, (Hps.outTo h bs i').count (k : Int) = ct := ⟨_, rfl⟩
                      rw [hct] at HTA ⊢
                      have HTK := Lib.hid (show (Hps.trialL h bs).take (k + 1) = (Hps.trialL h bs).take k ++ [(ct : Int)] by rw [HTK0.out, HTA.out])
                      clear hct
                      have oa := World.ownsRow.alloc ow (.cells #[.int .i64 ((ct : Int))] 3)
                      have rr : IS (w5.alloc (.cells #[.int .i64 ((ct : Int))] 3)) (w5.alloc (.cells #[.int .i64 ((ct : Int))] 3)).heap.size (some ⟨w5.heap.size, 0, none⟩) 1 [(ct : Int)] := (own_oneI w5 ((ct : Int)) 0 (Nat.zero_le _)).reads
                      have hsz : w.heap.size + 1 ≤ (w5.alloc (.cells #[.int .i64 ((ct : Int))] 3)).heap.size := by simp; omega
                      have hwa := hw5.alloc (.cells #[.int .i64 ((ct : Int))] 3)
                      have ba := bb.alloc bb.size (.cells #[.int .i64 ((ct : Int))] 3)
                      go_wp2_with (at_builtin; refine wpList_appendI rfl (.tmp 102) (.tmp 104) rfl (w.heap.size + 1) _ ((Hps.trialL h bs).take k) rfl oa (some ⟨w5.heap.size, 0, none⟩) 1 1 _ [(ct : Int)] rfl rr (by simp; omega) hsz ?_; intro v6 w6 o6 g6 _s6)
                      have hw6 := Rw.far hwa g6 (row_ne oa (by omega))
                      have bb6 := ba.grown g6 (by simp; omega) (fun kk hk => by have := (World.ownsRow.lt oa kk hk).1; omega)
                      rw [← HTK.out] at o6
                      obtain ⟨A6, c6, e6, _⟩ := o6.form
                      generalize hl6 : ((Hps.trialL h bs).take (k + 1)).length = l6 at e6
                      subst e6
                      clear oa rr g6 hwa ba
                      go_roundw
                      case rel => exact ⟨k + 1, by omega, by go_num, o6, HP2, hw6, bb6⟩
                      case measure => simp [intOf]; omega
        · obtain rfl : k = q := by omega
          have HR := Lib.hid (HRT.out HP.out)
          rw [List.take_of_length_le (by rw [HTL.out]; omega)] at ow
          go_wp2_with fail
          go_ret
          exact ⟨_, rfl, by rw [HR.out]; exact ow.base (by omega), bb⟩
    · have HR := Lib.hid (show Hps.trialH h bs = [] by
        have : Hps.okSet h bs = false := by
          rw [Hps.okSet, decide_eq_false (show ¬ bs.length = h.cs.length by omega)]
          rfl
        rw [Hps.trialH, hv, this]
        rfl)
      have hne : ((q : Int) != n) = true := by rw [bne_iff_ne]; omega
      clear hv hqn
      go_enter Tryd.func47, Tryd.ntmps47
      go_wp2_with fail
      refine (mHeapValid_any _ _ _ _ _ _ h _ r0 hn hm).mono ?_
      rw [HV.out]
      rintro e w1 ⟨rfl, b1⟩
      have bb1 := b0.trans (b1.mono b0.size)
      have hw1 := hw0.keep b1 hw0.lt
      have z0 : w1.cell? ⟨w.heap.size, 0, none⟩ = some (.slice A n c) := hw1.cell 0
      have on1 := on0.below b1 (Nat.le_refl _)
      go_wp2_with fail
      go_ret
      exact ⟨_, rfl, by rw [HR.out]; exact on1.base (by omega), bb1⟩
end Go.Proofs.YtiojoailjiojjaaDoor

namespace Go.Proofs.YtiojoailjiojjaaDoor
open Go.RowKit
set_option maxRecDepth 100000
namespace Hps
theorem fromH_no {h : Hp} {x : Int} (hn : ¬ (validH h = true ∧ 0 ≤ x ∧ usedAt h.cs x.toNat = true)) : fromH h x = [] := by rw [fromH, if_neg hn]
theorem fromH_yes {h : Hp} {v : Nat} (hv : validH h = true) (hu : usedAt h.cs v = true) : fromH h (v : Int) = reachL h.cs [(v : Int)] := by rw [fromH, if_pos ⟨hv, by omega, by simpa using hu⟩]
theorem deadH_no {h : Hp} {x : Int} (hn : ¬ (validH h = true ∧ 0 ≤ x ∧ usedAt h.cs x.toNat = true)) : deadH h x = [] := by rw [deadH, if_neg hn]
theorem deadH_yes {h : Hp} {v : Nat} (hv : validH h = true) (hu : usedAt h.cs v = true) : deadH h (v : Int) = deadL h (v : Int) := by rw [deadH, if_pos ⟨hv, by omega, by simpa using hu⟩]
theorem trialH_nil (h : Hp) : trialH h [] = [] := by
  unfold trialH
  split
  · next e =>
    rw [Bool.and_eq_true] at e
    have := (okSet_iff.1 e.2).1
    apply List.eq_nil_of_length_eq_zero
    rw [trialL_len, ← this]
    rfl
  · rfl
/-- the first k elements are those of the difference -/
def mixB (s t : List Bool) (k : Nat) : List Bool := (minusL s t).take k ++ s.drop k
theorem mixB_zero (s t : List Bool) : mixB s t 0 = s := by simp [mixB]
theorem minusL_len {s t : List Bool} (h : s.length = t.length) : (minusL s t).length = s.length := by simp [minusL, h]
theorem mixB_len {s t : List Bool} {k : Nat} (h : s.length = t.length) (hk : k ≤ s.length) : (mixB s t k).length = s.length := by simp [mixB, minusL_len h]; omega
theorem mixB_fin {s t : List Bool} {k : Nat} (h : s.length = t.length) (hk : s.length ≤ k) : mixB s t k = minusL s t := by
  rw [mixB, List.take_of_length_le (by rw [minusL_len h]; exact hk), List.drop_eq_nil_of_le hk, List.append_nil]
theorem mixB_at {s t : List Bool} {k : Nat} (h : s.length = t.length) (hk : k < s.length) : (mixB s t k)[k]? = s[k]? := by
  rw [mixB, List.getElem?_append_right (by simp [minusL_len h]; omega)]
  simp [minusL_len h, Nat.min_eq_left (Nat.le_of_lt hk)]
theorem mixB_step {s t : List Bool} {k : Nat} {a b : Bool} (h : s.length = t.length) (ha : s[k]? = some a) (hb : t[k]? = some b) : (mixB s t k).set k (a && !b) = mixB s t (k + 1) := by
  have hk := (List.getElem?_eq_some_iff.1 ha).1
  have hm : (minusL s t)[k]? = some (a && !b) := by rw [minusL, List.getElem?_zipWith, ha, hb]
  have hl := minusL_len h
  have hd : s.drop k = a :: s.drop (k + 1) := by
    rw [List.drop_eq_getElem_cons hk]
    congr 1
    rw [List.getElem?_eq_getElem hk] at ha
    exact Option.some.inj ha
  unfold mixB
  rw [hd, List.take_add_one, hm]
  simp only [Option.toList, List.append_assoc, List.singleton_append]
  rw [List.set_append_right _ _ (by simp [hl]; omega)]
  simp [hl, Nat.min_eq_left (Nat.le_of_lt hk)]
end Hps
set_option maxHeartbeats 2000000 in
theorem mCellsFrom_any (A R : Option Addr) (n c m d : Nat) (x : Int) (h : Hp) (w : World) (hs : HS w w.heap.size A n R m h) (hn : n ≤ 1099511627776) (hm : m ≤ 1099511627776) :
    Calls Tryd.prog 46 #[heapV A n c R m d, .int .i64 x] w (GaveO w (Hps.fromH h x)) := by
  have hlc := hs.cells.1
  have b0 : Below w.heap.size w (w.alloc (.cells #[.slice A n c, .slice R m d] 26)) := (Below.refl _ _).alloc (Nat.le_refl _) _
  have r0 := hs.up b0
  have hw0 := Rw.new w 26 #[.slice A n c, .slice R m d]
  cases hv : Hps.validH h
  · have HR := Lib.hid (Hps.fromH_no (h := h) (x := x) (by rw [hv]; simp))
    have HV := Lib.hid hv
    clear hv
    go_enter Tryd.func46, Tryd.ntmps46
    go_wp2_with fail
    refine (mHeapValid_any _ _ _ _ _ _ h _ r0 hn hm).mono ?_
    rw [HV.out]
    rintro e w1 ⟨rfl, b1⟩
    have bb1 := b0.trans (b1.mono b0.size)
    have on := own_noneO w1 w.heap.size bb1.size
    have bl := bb1.alloc bb1.size (.cells #[] 4)
    go_wp2_with fail
    go_ret
    exact ⟨_, rfl, by rw [HR.out]; exact on, bl⟩
  · have HV := Lib.hid hv
    obtain ⟨s1, s2, s3⟩ := Hps.valid_small hv
    have HRF := Lib.hid (Hps.valid_refs hv)
    have HS3 := Lib.hid s3
    have hwn : IntKind.i64.wrap ((n : Int) - 1) = (n : Int) - 1 := IntWalk.i64_in _ (by omega)
    by_cases hin : 0 ≤ x ∧ x ≤ (n : Int) - 1
    · obtain ⟨v, rfl⟩ := Int.eq_ofNat_of_zero_le hin.1
      have hvn : v < n := by omega
      have hvn' : (v : Int) < n := by omega
      have HL := Lib.hid (fun ww => (l1In_any (v : Int) 0 ((n : Int) - 1) ww).mono fun e w' he => (⟨by rw [he.1, decide_eq_true hin.1, decide_eq_true hin.2]; rfl, he.2⟩ : e = .returned (.bool true) ∧ ww = w'))
      cases hu : Hps.usedAt h.cs v
      · have HR := Lib.hid (Hps.fromH_no (h := h) (x := (v : Int)) (by simp [hu]))
        have HU := Lib.hid hu
        clear hv hu hin s3
        go_enter Tryd.func46, Tryd.ntmps46
        go_wp2_with fail
        refine (mHeapValid_any _ _ _ _ _ _ h _ r0 hn hm).mono ?_
        rw [HV.out]
        rintro e w1 ⟨rfl, b1⟩
        have bb1 := b0.trans (b1.mono b0.size)
        have r1 := r0.up b1
        have hw1 := hw0.keep b1 (by simp)
        have z0 : w1.cell? ⟨w.heap.size, 0, none⟩ = some (.slice A n c) := hw1.cell 0
        clear r0 hw0
        go_wp2_with fail
        refine (HL.out _).mono ?_
        rintro e w2 ⟨rfl, rfl⟩
        obtain ⟨g, o, cl, A', m', cc, rfl, hg, hcl, d1, d2, d3, hmc, hi⟩ := r1.cells.at_ hvn
        have huf : cl.u = false := by have := HU.out; rw [Hps.usedAt, hcl] at this; exact this
        rw [huf] at d1
        have on := own_noneO w1 w.heap.size bb1.size
        have bl := bb1.alloc bb1.size (.cells #[] 4)
        clear hcl huf
        go_wp2_with fail
        go_ret
        exact ⟨_, rfl, by rw [HR.out]; exact on, bl⟩
      · have HR := Lib.hid (Hps.fromH_yes hv hu)
        have HU := Lib.hid hu
        clear hv hu hin s3
        go_enter Tryd.func46, Tryd.ntmps46
        go_wp2_with fail
        refine (mHeapValid_any _ _ _ _ _ _ h _ r0 hn hm).mono ?_
        rw [HV.out]
        rintro e w1 ⟨rfl, b1⟩
        have bb1 := b0.trans (b1.mono b0.size)
        have r1 := r0.up b1
        have hw1 := hw0.keep b1 (by simp)
        have z0 : w1.cell? ⟨w.heap.size, 0, none⟩ = some (.slice A n c) := hw1.cell 0
        have z1 : w1.cell? ⟨w.heap.size, 1, none⟩ = some (.slice R m d) := hw1.cell 1
        clear r0 hw0
        go_wp2_with fail
        refine (HL.out _).mono ?_
        rintro e w2 ⟨rfl, rfl⟩
        obtain ⟨g, o, cl, A', m', cc, rfl, hg, hcl, d1, d2, d3, hmc, hi⟩ := r1.cells.at_ hvn
        have huf : cl.u = true := by
          obtain ⟨c2, h1, h2⟩ := Hps.usedAt_iff.1 HU.out
          rw [hcl] at h1
          rw [Option.some.inj h1]
          exact h2
        rw [huf] at d1
        have b2 := bb1.alloc bb1.size (.cells #[.int .i64 v] 3)
        have r2 := r1.up ((Below.refl w1.heap.size w1).alloc (Nat.le_refl _) (.cells #[.int .i64 v] 3))
        have rr : IS (w1.alloc (.cells #[.int .i64 v] 3)) (w1.alloc (.cells #[.int .i64 v] 3)).heap.size (some ⟨w1.heap.size, 0, none⟩) 1 [(v : Int)] := (own_oneI w1 v 0 (Nat.zero_le _)).reads
        have HOK := Lib.hid (show Hps.okRefs h.cs [(v : Int)] = true from Hps.okRefs_iff.2 fun y hy => by rw [List.mem_singleton] at hy; subst hy; exact Hps.okRef_iff.2 (.inr ⟨by omega, by simpa using HU.out⟩))
        clear hcl huf
        go_wp2_with fail
        refine (l7Reach_any _ _ _ _ _ _ _ _ _ h [(v : Int)] _ r2 rr (by omega) (by omega) HOK.out HRF.out (fun cl hcl => by have := HS3.out cl hcl; omega)).mono ?_
        rintro e w3 ⟨v3, rfl, o3, b3⟩
        go_wp2_with fail
        go_ret
        exact ⟨_, rfl, by rw [HR.out]; exact o3.base b2.size, b2.trans (b3.mono b2.size)⟩
    · have HR := Lib.hid (Hps.fromH_no (h := h) (x := x) (by
        rintro ⟨_, q1, q2⟩
        have := Hps.usedAt_lt q2
        omega))
      have HL := Lib.hid (fun ww => (l1In_any x 0 ((n : Int) - 1) ww).mono fun e w' he => (⟨by rw [he.1]; congr 1; simp only [Value.bool.injEq, Bool.and_eq_false_iff, decide_eq_false_iff_not]; omega, he.2⟩ : e = .returned (.bool false) ∧ ww = w'))
      clear hv hin s3
      go_enter Tryd.func46, Tryd.ntmps46
      go_wp2_with fail
      refine (mHeapValid_any _ _ _ _ _ _ h _ r0 hn hm).mono ?_
      rw [HV.out]
      rintro e w1 ⟨rfl, b1⟩
      have bb1 := b0.trans (b1.mono b0.size)
      have hw1 := hw0.keep b1 (by simp)
      have z0 : w1.cell? ⟨w.heap.size, 0, none⟩ = some (.slice A n c) := hw1.cell 0
      clear r0 hw0
      go_wp2_with fail
      refine (HL.out _).mono ?_
      rintro e w2 ⟨rfl, rfl⟩
      have on := own_noneO w1 w.heap.size bb1.size
      have bl := bb1.alloc bb1.size (.cells #[] 4)
      go_wp2_with fail
      go_ret
      exact ⟨_, rfl, by rw [HR.out]; exact on, bl⟩
set_option maxHeartbeats 4000000 in
theorem mDeadCycle_any (A R : Option Addr) (n c m d : Nat) (x : Int) (h : Hp) (w : World) (hs : HS w w.heap.size A n R m h) (hn : n ≤ 1099511627776) (hm : m ≤ 1099511627776) :
    Calls Tryd.prog 12 #[heapV A n c R m d, .int .i64 x] w (GaveO w (Hps.deadH h x)) := by
  have hlc := hs.cells.1
  have b0 : Below w.heap.size w (w.alloc (.cells #[.slice A n c, .slice R m d] 26)) := (Below.refl _ _).alloc (Nat.le_refl _) _
  have r0 := hs.up b0
  have hw0 := Rw.new w 26 #[.slice A n c, .slice R m d]
  by_cases hok : Hps.validH h = true ∧ 0 ≤ x ∧ Hps.usedAt h.cs x.toNat = true
  · obtain ⟨hv, hx0, hu⟩ := hok
    obtain ⟨v, rfl⟩ := Int.eq_ofNat_of_zero_le hx0
    rw [Int.toNat_natCast] at hu
    obtain ⟨s1, s2, s3⟩ := Hps.valid_small hv
    have HR := Lib.hid (Hps.deadH_yes hv hu)
    have HF := Lib.hid (Hps.fromH_yes hv hu)
    have HRF := Lib.hid (Hps.valid_refs hv)
    have HS3 := Lib.hid s3
    have hn0 : 0 < n := by have := Hps.usedAt_lt hu; omega
    obtain ⟨S, hS⟩ : ∃ S, Hps.reachL h.cs [(v : Int)] = S := ⟨_, rfl⟩
    have hSl : S.length = n := by rw [← hS, Hps.reachL_len, hlc]
    have HOKS := Lib.hid (show Hps.okSet h S = true by rw [← hS]; exact Hps.from_ok hv hu)
    have HT := Lib.hid (show Hps.trialH h S = Hps.trialL h S by rw [Hps.trialH, hv, HOKS.out]; rfl)
    have HTL := Lib.hid (show (Hps.trialL h S).length = n by rw [Hps.trialL_len, hlc])
    have HD := Lib.hid (show Hps.deadL h (v : Int) = Hps.minusL S (Hps.reachL h.cs (Hps.outsideL h S)) by rw [Hps.deadL, hS])
    have HLC := Lib.hid hlc
    rw [hS] at HF
    clear hv hx0 hu s3 hS
    have HC := Lib.hid (mCellsFrom_any A R n c m d (v : Int) h _ r0 hn hm)
    rw [HF.out] at HC
    go_enter Tryd.func12, Tryd.ntmps12
    go_wp2_with fail
    refine HC.out.mono ?_
    rintro e w2 ⟨v1, rfl, o1, b1⟩
    obtain ⟨A1, c1, e1, hA1⟩ := o1.form
    rw [hSl] at e1 hA1
    subst e1
    obtain ⟨g1, rfl, hg1, hg1l⟩ := hA1 hn0
    have bb1 := b0.trans (b1.mono b0.size)
    have r1 := r0.up b1
    have hw1 := hw0.keep b1 (by simp)
    have z0 : w2.cell? ⟨w.heap.size, 0, none⟩ = some (.slice A n c) := hw1.cell 0
    have z1 : w2.cell? ⟨w.heap.size, 1, none⟩ = some (.slice R m d) := hw1.cell 1
    have HTC := Lib.hid (mTrialCounts_any A R (some ⟨g1, 0, none⟩) n c m d n c1 h S w2 r1 o1.reads hn hm hn)
    rw [HT.out] at HTC
    rw [World.size_alloc] at o1 hg1
    clear HC r0 hw0 b1 hA1
    go_wp2_with fail
    refine HTC.out.mono ?_
    rintro e w3 ⟨v2, rfl, o2, b2⟩
    obtain ⟨A2, c2, e2, _⟩ := o2.form
    rw [HTL.out] at e2
    subst e2
    have bb2 := bb1.trans (b2.mono bb1.size)
    have r2 := r1.up b2
    have o1' := o1.below b2 (Nat.le_refl _)
    have hw2 := hw1.keep b2 hw1.lt
    have tr := o2.reads
    have oz := own_noneI w3 w3.heap.size (Nat.le_refl _)
    have HO0 := Lib.hid (show ([] : List Int) = Hps.outsideTo h S 0 by simp [Hps.outsideTo])
    rw [HO0.out] at oz
    have bz : Below w3.heap.size w3 (w3.alloc (.cells #[] 3)) := (Below.refl _ _).alloc (Nat.le_refl _) _
    have hn0' : (n : Int) > 0 := by omega
    have sz2 := hw2.lt
    have hs23 := b2.size
    clear HTC r1 hw1 b2 o2 z0 z1 o1
    go_wp2_with fail
    go_loopw [7, 8] (fun o i wr => ∃ k : Nat, k ≤ n ∧ i = .int .i64 k ∧ OwnI wr w3.heap.size o (Hps.outsideTo h S k) ∧ Below w3.heap.size w3 wr) (fun _ i _ => n - (intOf i).toNat)
    case atStart => exact ⟨0, Nat.zero_le _, rfl, oz, bz⟩
    case round =>
      clear oz bz
      obtain ⟨k, hk, rfl, oo, bb⟩ := hrel
      obtain ⟨Ao, co, eo, _⟩ := oo.form
      have hlo := Hps.outsideTo_len h S k
      obtain ⟨lo, hloe⟩ : ∃ lo, (Hps.outsideTo h S k).length = lo := ⟨_, rfl⟩
      rw [hloe] at eo hlo
      subst eo
      by_cases hlt : k < n
      · obtain ⟨gt, ot, y, e1, hgt, hy, d0⟩ := (tr.below bb).at_ hlt
        subst e1
        rw [Hps.trialL_at (by rw [HLC.out]; exact hlt)] at hy
        have hy := Option.some.inj hy
        have hlt' : (k : Int) < n := by omega
        by_cases hp : 0 < Hps.trialAt h S k
        · have hp' : y > 0 := by omega
          have HN := Lib.hid (Hps.outsideTo_yes hp)
          have oa := World.ownsRow.alloc oo (.cells #[.int .i64 k] 3)
          have rr : IS (wr.alloc (.cells #[.int .i64 k] 3)) (wr.alloc (.cells #[.int .i64 k] 3)).heap.size (some ⟨wr.heap.size, 0, none⟩) 1 [(k : Int)] := (own_oneI wr k 0 (Nat.zero_le _)).reads
          have hsz : w3.heap.size ≤ (wr.alloc (.cells #[.int .i64 k] 3)).heap.size := by have := bb.size; simp; omega
          have ba := bb.alloc bb.size (.cells #[.int .i64 k] 3)
          have hlen1 : (Hps.outsideTo h S k).length + 1 ≤ 1099511627776 := by rw [hloe]; omega
          clear hp hy
          go_wp2_with (at_builtin; refine wpList_appendI rfl (.tmp 34) (.tmp 36) rfl w3.heap.size _ (Hps.outsideTo h S k) rfl oa (some ⟨wr.heap.size, 0, none⟩) 1 1 _ [(k : Int)] rfl rr hlen1 hsz ?_; intro v6 w6 o6 g6 _s6)
          have bb6 := ba.grown g6 (by have := bb.size; simp; omega) (fun kk hk => (World.ownsRow.lt oa kk hk).1)
          rw [← HN.out] at o6
          obtain ⟨A6, c6, e6, _⟩ := o6.form
          generalize hl6 : (Hps.outsideTo h S (k + 1)).length = l6 at e6
          subst e6
          clear oa rr g6 ba
          go_roundw
          case rel => exact ⟨k + 1, by omega, by go_num, o6, bb6⟩
          case measure => simp [intOf]; omega
        · have hp' : ¬ y > 0 := by omega
          have HN := Lib.hid (Hps.outsideTo_no hp)
          clear hp hy
          go_wp2_with fail
          go_roundw
          case rel => exact ⟨k + 1, by omega, by go_num, by rw [HN.out]; exact oo, bb⟩
          case measure => simp [intOf]; omega
      · obtain rfl : k = n := by omega
        have HE := Lib.hid (show Hps.outsideTo h S k = Hps.outsideL h S by rw [Hps.outsideL, HLC.out])
        rw [HE.out] at oo
        have HOO := Lib.hid (Hps.outside_ok HOKS.out)
        have bb3 := bb2.trans (bb.mono bb2.size)
        have r3 := r2.up bb
        have hw3 := hw2.keep bb sz2
        have z0 : wr.cell? ⟨w.heap.size, 0, none⟩ = some (.slice A k c) := hw3.cell 0
        have z1 : wr.cell? ⟨w.heap.size, 1, none⟩ = some (.slice R m d) := hw3.cell 1
        have o1w := o1'.below bb (Nat.le_refl _)
        have HX := Lib.hid (l7Reach_any A R Ao k c m d lo co h (Hps.outsideL h S) wr r3 oo.reads (by omega) (by omega) HOO.out HRF.out (fun cl hcl => by have := HS3.out cl hcl; omega))
        have hkz : ((k : Int) == 0) = false := by rw [beq_eq_false_iff_ne]; omega
        obtain ⟨Tt, hTt⟩ : ∃ Tt, Hps.reachL h.cs (Hps.outsideL h S) = Tt := ⟨_, rfl⟩
        have hTl : Tt.length = k := by rw [← hTt, Hps.reachL_len, HLC.out]
        rw [hTt] at HX HD
        have hszr := bb.size
        clear oo r2 r3 hw2 hw3 tr o1' hTt bb
        go_wp2_with fail
        refine HX.out.mono ?_
        rintro e w6 ⟨v6, rfl, o6, b6⟩
        obtain ⟨A6, c6, e6, hA6⟩ := o6.form
        rw [hTl] at e6 hA6
        subst e6
        obtain ⟨g6, rfl, hg6, hg6l⟩ := hA6 (by omega)
        have o1x := o1w.below b6 (Nat.le_refl _)
        have bb6 := bb3.trans (b6.mono (by have := bb3.size; omega))
        have hST : S.length = Tt.length := by omega
        have HST := Lib.hid hST
        rw [← Hps.mixB_zero S Tt] at o1x
        have hne : (Value.slice (some ⟨g6, 0, none⟩) k c6).ownBlock = none ∨ (Value.slice (some ⟨g6, 0, none⟩) k c6).ownBlock ≠ some g1 := .inr fun e => by
          have : g6 = g1 := Option.some.inj e
          omega
        have HNE := Lib.hid hne
        have HSL := Lib.hid hSl
        have HTT := Lib.hid hTl
        have o1y := o1x.base (show w.heap.size ≤ w.heap.size + 1 by omega)
        clear HX o1w z0 z1 hA6 b6 o1x hne hST hSl hTl
        go_wp2_with fail
        go_loopw [10] (fun i wr => ∃ j : Nat, j ≤ k ∧ i = .int .i64 j ∧ OwnO wr w.heap.size (.slice (some ⟨g1, 0, none⟩) k c1) (Hps.mixB S Tt j) ∧ OwnO wr w.heap.size (.slice (some ⟨g6, 0, none⟩) k c6) Tt ∧ Below w.heap.size w wr) (fun i _ => k - (intOf i).toNat)
        case atStart => exact ⟨0, Nat.zero_le _, rfl, o1y, o6.base (by have := bb3.size; omega), bb6⟩
        case round =>
          clear o1y o6 bb6
          obtain ⟨j, hj, rfl, o1, o6, bb⟩ := hrel
          have hml := Hps.mixB_len (k := j) HST.out (by rw [HSL.out]; exact hj)
          rw [HSL.out] at hml
          by_cases hlj : j < k
          · obtain ⟨g', o', a, e1, _, ha, d1⟩ := o1.reads.at_ hlj
            injection e1 with e1
            injection e1 with e1a e1b
            subst e1a e1b
            rw [Nat.zero_add] at d1
            rw [Hps.mixB_at HST.out (by rw [HSL.out]; exact hlj)] at ha
            obtain ⟨g', o', b, e1, _, hb, d2⟩ := o6.reads.at_ hlj
            injection e1 with e1
            injection e1 with e1a e1b
            subst e1a e1b
            rw [Nat.zero_add] at d2
            have hlj' : (j : Int) < k := by omega
            have fz : wr.frozen? ⟨g1, j, none⟩ = false := o1.frozen hml j
            have on := Lib.hid (OwnO.cast (Hps.mixB_step HST.out ha hb) (o1.put' (j := j) hml (a && !b)))
            have ot := Lib.hid (o6.far (put_any wr g1 j (.bool (a && !b))) HNE.out)
            have bn := Lib.hid (bb.setCell (p := ⟨g1, j, none⟩) (World.ownsRow.lt o1 g1 rfl).1 (.bool (a && !b)))
            clear ha hb o1 o6 hml
            cases a <;> cases b <;>
            · go_wp2_with fail
              go_roundw
              case rel => exact ⟨j + 1, by omega, by go_num, on.out, ot.out, bn.out⟩
              case measure => simp [intOf]; omega
          · obtain rfl : j = k := by omega
            rw [Hps.mixB_fin HST.out (by rw [HSL.out]; omega), ← HD.out, ← HR.out] at o1
            go_wp2_with fail
            go_ret
            exact ⟨_, rfl, o1, bb⟩
  · have HR := Lib.hid (Hps.deadH_no hok)
    have HF := Lib.hid (Hps.fromH_no hok)
    clear hok
    have HC := Lib.hid (mCellsFrom_any A R n c m d x h _ r0 hn hm)
    rw [HF.out] at HC
    go_enter Tryd.func12, Tryd.ntmps12
    go_wp2_with fail
    refine HC.out.mono ?_
    rintro e w2 ⟨v1, rfl, o1, b1⟩
    obtain ⟨A1, c1, rfl, _⟩ := o1.form
    rw [show ([] : List Bool).length = 0 from rfl] at o1 ⊢
    have bb1 := b0.trans (b1.mono b0.size)
    have r1 := r0.up b1
    have hw1 := hw0.keep b1 (by simp)
    have z0 : w2.cell? ⟨w.heap.size, 0, none⟩ = some (.slice A n c) := hw1.cell 0
    have z1 : w2.cell? ⟨w.heap.size, 1, none⟩ = some (.slice R m d) := hw1.cell 1
    have HTC := Lib.hid (mTrialCounts_any A R A1 n c m d 0 c1 h [] w2 r1 o1.reads hn hm (by omega))
    rw [Hps.trialH_nil] at HTC
    clear HC r0 hw0 b1 o1
    go_wp2_with fail
    refine HTC.out.mono ?_
    rintro e w3 ⟨v2, rfl, o2, b2⟩
    obtain ⟨A2, c2, rfl, _⟩ := o2.form
    rw [show ([] : List Int).length = 0 from rfl] at o2 ⊢
    have bb2 := bb1.trans (b2.mono bb1.size)
    have bb3 := (bb2.alloc bb2.size (.cells #[] 3)).alloc (by have := bb2.size; simp; omega) (.cells #[] 4)
    have oz := own_noneO (w3.alloc (.cells #[] 3)) w.heap.size (by have := bb2.size; simp; omega)
    rw [show (w3.alloc (.cells #[] 3)).heap.size = w3.heap.size + 1 by simp] at oz
    clear HTC r1 hw1 z0 z1 o2
    go_wp2_with fail
    go_loopw [8] (fun i wr => i = .int .i64 0 ∧ wr = w3.alloc (.cells #[] 3)) (fun _ _ => 0)
    case atStart => exact ⟨rfl, rfl⟩
    case round =>
      obtain ⟨rfl, rfl⟩ := hrel
      go_wp2_with fail
      go_ret
      exact ⟨_, rfl, by rw [HR.out]; exact oz, bb3⟩
end Go.Proofs.YtiojoailjiojjaaDoor

namespace Go.Proofs.YtiojoailjiojjaaDoor
open Go.RowKit
set_option maxRecDepth 100000
set_option maxHeartbeats 4000000 in
theorem mCollectCycles_any (A R K : Option Addr) (n c m d p q : Nat) (h : Hp) (l : List Int) (w : World) (hs : HS w w.heap.size A n R m h) (hk : IS w w.heap.size K p l) (hn : n ≤ 1099511627776) (hm : m ≤ 1099511627776) (hp : p ≤ 1099511627776) :
    Calls Tryd.prog 18 #[ctV A n c R m d K p q] w (GaveCtI w (Hps.cyclesH h l).1.1 (Hps.cyclesH h l).1.2 (Hps.cyclesH h l).2) := by
  have hlc := hs.cells.1
  have hlr := hs.roots.1
  have b2 : Below w.heap.size w ((w.alloc (.cells #[.slice A n c, .slice R m d, .slice K p q] 38)).alloc (.cells #[.slice none 0 0, .slice none 0 0, .slice none 0 0] 38)) := ((Below.refl w.heap.size w).alloc (Nat.le_refl _) _).alloc (by simp) _
  have q1 := (Rw.new w 38 #[.slice A n c, .slice R m d, .slice K p q]).alloc (.cells #[.slice none 0 0, .slice none 0 0, .slice none 0 0] 38)
  have q3 := Rw.new (w.alloc (.cells #[.slice A n c, .slice R m d, .slice K p q] 38)) 38 #[.slice none 0 0, .slice none 0 0, .slice none 0 0]
  simp only [World.size_alloc] at q3
  have s2 := hs.up b2
  have k2 := hk.up b2
  go_enter Tryd.func18, Tryd.ntmps18
  go_upto_region 1 with fail
  generalize ((w.alloc (.cells #[.slice A n c, .slice R m d, .slice K p q] 38)).alloc (.cells #[.slice none 0 0, .slice none 0 0, .slice none 0 0] 38)) = w2 at b2 q1 q3 s2 k2 ⊢
  have x0 : w2.cell? ⟨w.heap.size, 0, none⟩ = some (.slice A n c) := q1.cell 0
  have x1 : w2.cell? ⟨w.heap.size, 1, none⟩ = some (.slice R m d) := q1.cell 1
  have x2 : w2.cell? ⟨w.heap.size, 2, none⟩ = some (.slice K p q) := q1.cell 2
  go_wp2_with fail
  refine (mCountedValid_any _ _ _ _ _ _ _ _ _ h l _ s2 k2 hn hm hp).mono ?_
  clear k2
  obtain ⟨r, hok⟩ : ∃ r, Hps.okCt h l = r := ⟨_, rfl⟩
  rw [hok]
  rintro e w4 ⟨rfl, b4⟩
  replace q1 := q1.keep b4 q1.lt
  replace q3 := q3.keep b4 q3.lt
  replace s2 := s2.up b4
  replace b2 := b2.trans (b4.mono b2.size)
  clear x0 x1 x2 b4
  have x0 : w4.cell? ⟨w.heap.size, 0, none⟩ = some (.slice A n c) := q1.cell 0
  have x1 : w4.cell? ⟨w.heap.size, 1, none⟩ = some (.slice R m d) := q1.cell 1
  have x2 : w4.cell? ⟨w.heap.size, 2, none⟩ = some (.slice K p q) := q1.cell 2
  have hsz4 := q3.lt
  cases r
  · have HF := Lib.hid (show Hps.cyclesH h l = ((Hps.zeroH, []), -1) by rw [Hps.cyclesH, hok]; rfl)
    clear hok s2
    have r2 : (w4).frozen? ⟨w.heap.size + 1, 0, none⟩ = false := q3.frozen 0
    have r3 : (w4).frozen? ⟨w.heap.size + 1, 1, none⟩ = false := q3.frozen 1
    have r4 : (w4).frozen? ⟨w.heap.size + 1, 2, none⟩ = false := q3.frozen 2
    have r5 : (w4).cell? ⟨w.heap.size + 1, 0, none⟩ = some (.slice none 0 0) := q3.cell 0
    have r6 : (w4).cell? ⟨w.heap.size + 1, 1, none⟩ = some (.slice none 0 0) := q3.cell 1
    have r7 : (w4).cell? ⟨w.heap.size + 1, 2, none⟩ = some (.slice none 0 0) := q3.cell 2
    have q4 := ((q3.put 0 (.slice none 0 0)).put 1 (.slice none 0 0)).put 2 (.slice none 0 0)
    have r8 : ((((w4).setCell ⟨w.heap.size + 1, 0, none⟩ (.slice none 0 0)).setCell ⟨w.heap.size + 1, 1, none⟩ (.slice none 0 0)).setCell ⟨w.heap.size + 1, 2, none⟩ (.slice none 0 0)).cell? ⟨w.heap.size + 1, 0, none⟩ = some (.slice none 0 0) := q4.cell 0
    have r9 : ((((w4).setCell ⟨w.heap.size + 1, 0, none⟩ (.slice none 0 0)).setCell ⟨w.heap.size + 1, 1, none⟩ (.slice none 0 0)).setCell ⟨w.heap.size + 1, 2, none⟩ (.slice none 0 0)).cell? ⟨w.heap.size + 1, 1, none⟩ = some (.slice none 0 0) := q4.cell 1
    have r10 : ((((w4).setCell ⟨w.heap.size + 1, 0, none⟩ (.slice none 0 0)).setCell ⟨w.heap.size + 1, 1, none⟩ (.slice none 0 0)).setCell ⟨w.heap.size + 1, 2, none⟩ (.slice none 0 0)).cell? ⟨w.heap.size + 1, 2, none⟩ = some (.slice none 0 0) := q4.cell 2
    have D := Lib.hid (OwnC.out (w := w) (g := w.heap.size + 1) (own_zeroC w4 w4.heap.size (Nat.le_refl _)) (by omega) (b2) (by omega))
    clear q1 q3 q4 b2 x0 x1 x2
    go_wp2_with fail
    exact bodyPost_ret (v := .tuple #[.agg #[.slice none 0 0, .slice none 0 0, .slice none 0 0], .int .i64 (-1)]) (by simp [results, Tryd.results18, go_sem, *]) rfl ⟨_, _, _, by rw [HF.out], by rw [HF.out]; exact D.out.1, D.out.2⟩
  have HF := Lib.hid (show Hps.cyclesH h l = (((Hps.ccTo h n).1, Hps.countsL (Hps.ccTo h n).1), ((Hps.ccTo h n).2 : Int)) by rw [Hps.cyclesH, if_pos hok, hlc])
  have HV := Lib.hid (Hps.okCt_iff.1 hok).1
  have HCC : Hid (∀ k, Hps.Cc h (Hps.ccTo h k).1 (Hps.ccTo h k).2 k) := Lib.hid fun k => Hps.cc_to HV.out k
  have hn40 := (Hps.valid_small HV.out).1
  have h3 := (Hps.valid_small HV.out).2.2
  have hmr := (Hps.valid_small HV.out).2.1
  rw [hlc] at hn40
  have HUS := Lib.hid (show Hps.usedN h ≤ 40 by have := Hps.usedN_le h; omega)
  have q3b := Lib.hid q3
  clear hok
  go_wp2_with fail
  refine (l7Copy_any _ _ _ _ _ _ h _ s2 (by omega) (by omega) (fun cl hcl => by have := h3 cl hcl; omega)).mono ?_
  rintro e w5 ⟨vc, vr, rfl, ow, b5⟩
  obtain ⟨A4, c4, R4, d4, rfl, rfl, -⟩ := ow.form
  rw [hlc, hlr] at ow ⊢
  have B2K := Lib.hid b2
  have hb5 := b5.size
  have rb := Rw.new w5 26 #[.slice A4 n c4, .slice R4 m d4]
  have o6 := ow.below ((Below.refl w5.heap.size w5).alloc (Nat.le_refl _) (.cells #[.slice A4 n c4, .slice R4 m d4] 26)) (Nat.le_refl _)
  have b6 := b5.alloc b5.size (.cells #[.slice A4 n c4, .slice R4 m d4] 26)
  clear q1 q3 x0 x1 x2 b5 ow s2 b2 h3
  go_upto_region 4 with fail
  generalize w5.alloc (.cells #[.slice A4 n c4, .slice R4 m d4] 26) = w6 at rb o6 b6 ⊢
  generalize w5.heap.size = b at rb hb5 ⊢
  clear w5
  have v0 : w6.cell? ⟨b, 0, none⟩ = some (.slice A4 n c4) := rb.cell 0
  go_wp2_with fail
  go_loopw [5, 6] (fun fr i wr => ∃ (k f : Nat) (x : Hp) (vc vr : Value), k ≤ n ∧ i = .int .i64 k ∧ fr = .int .i64 f ∧ Hid (Hps.ccTo h k = (x, f)) ∧ Rw wr b 26 #[vc, vr] ∧ OwnH wr w4.heap.size vc vr x ∧ Below w4.heap.size w4 wr) (fun _ i _ => n - (intOf i).toNat)
  case atStart => exact ⟨0, 0, h, _, _, Nat.zero_le _, rfl, rfl, Lib.hid rfl, rb, o6, b6⟩
  case round =>
    clear rb o6 b6 v0
    obtain ⟨k, f, x, vc, vr, hk, rfl, rfl, HE, rb, S, bb⟩ := hrel
    have HC := HCC.out k
    rw [HE.out] at HC
    have hxl := HC.len
    simp only at hxl
    have HXV := Lib.hid HC.ok
    have hxs := Hps.valid_small HC.ok
    have hfl : f ≤ 40 := by
      have h1 := HC.cnt
      have h2 := HUS.out
      simp only at h1
      omega
    obtain ⟨A5, c5, R5, d5, rfl, rfl, hsr⟩ := S.form
    have hxr := hxs.2.1
    rw [hxl, hlc, hxr, ← hmr, hlr] at rb S hsr
    have x0 : wr.cell? ⟨b, 0, none⟩ = some (.slice A5 n c5) := rb.cell 0
    have x1 : wr.cell? ⟨b, 1, none⟩ = some (.slice R5 m d5) := rb.cell 1
    have hbl := rb.lt
    clear HC
    by_cases hlt : k < n
    · obtain ⟨gc, oc, cl, A', m', cc, e1, hgc, hcl, y0, y1, y2, hmc, hi⟩ := hsr.cells.at_ hlt
      subst e1
      have hlt' : (k : Int) < n := by omega
      cases hu : cl.u
      · have HN := Lib.hid (Hps.ccTo_free HE.out (show Hps.usedAt x.cs k = false by rw [Hps.usedAt, hcl]; exact hu))
        rw [hu] at y0
        clear hcl hu y1 y2 hxs
        go_wp2_with fail
        go_roundw
        case rel => exact ⟨k + 1, f, x, _, _, by omega, by go_num, rfl, HN, rb, S, bb⟩
        case measure => simp [intOf]; omega
      · have hua : Hps.usedAt x.cs k = true := Hps.usedAt_iff.2 ⟨cl, hcl, hu⟩
        have HN := Lib.hid (Hps.ccTo_used HE.out hua)
        have HD := Lib.hid (mDeadCycle_any (some ⟨gc, oc, none⟩) R5 n c5 m d5 (k : Int) x wr hsr hn hm)
        rw [Hps.deadH_yes HXV.out hua] at HD
        have hDl : (Hps.deadL x (k : Int)).length = n := by rw [Hps.deadL_len]; omega
        have hf2 : f + (Hps.deadL x (k : Int)).count true ≤ 40 := by
          have h1 := (HCC.out (k + 1)).cnt
          rw [HN.out] at h1
          have h2 := HUS.out
          simp only at h1
          omega
        obtain ⟨D, hD⟩ : ∃ D, Hps.deadL x (k : Int) = D := ⟨_, rfl⟩
        rw [hD] at HD HN hDl hf2
        have HX3 : Hid (∀ cl ∈ x.cs, cl.r.length ≤ 1000000) := Lib.hid fun cl hcl => by have := hxs.2.2 cl hcl; omega
        rw [hu] at y0
        have hszr := bb.size
        clear hcl hua hD hu y1 y2 hxs
        go_wp2_with fail
        refine HD.out.mono ?_
        rintro e w7 ⟨dv, rfl, od, b7⟩
        obtain ⟨A7, c7, e7, _⟩ := od.form
        rw [hDl] at e7
        subst e7
        have hsr7 := hsr.up b7
        have rb7 := rb.keep b7 hbl
        have bb7 := bb.trans (b7.mono hszr)
        have ords := od.reads
        have z0 : w7.cell? ⟨b, 0, none⟩ = some (.slice (some ⟨gc, oc, none⟩) n c5) := rb7.cell 0
        have z1 : w7.cell? ⟨b, 1, none⟩ = some (.slice R5 m d5) := rb7.cell 1
        have HDR := Lib.hid (l11Drop_any (some ⟨gc, oc, none⟩) R5 A7 n c5 m d5 c7 x D w7 hsr7 ords (by omega) (by omega) HX3.out)
        have HDL := Lib.hid hDl
        clear HD rb S hsr x0 x1 y0 b7 od hsr7
        go_wp2_with fail
        go_loopw [5, 8] (fun fr i wr => ∃ j : Nat, j ≤ n ∧ i = .int .i64 j ∧ fr = .int .i64 ((f + (D.take j).count true : Nat) : Int) ∧ w7 = wr) (fun _ i _ => n - (intOf i).toNat)
        case atStart => exact ⟨0, Nat.zero_le _, rfl, by simp, rfl⟩
        case round =>
          obtain ⟨j, hj, rfl, rfl, rfl⟩ := hrel
          have hcj : (D.take j).count true ≤ D.count true := (List.take_sublist j D).count_le true
          by_cases hlj : j < n
          · obtain ⟨gd, od, bv, e8, hgd, hbv, d8⟩ := ords.at_ hlj
            subst e8
            have hlj' : (j : Int) < n := by omega
            have HTK := Lib.hid (show (D.take (j + 1)).count true = (D.take j).count true + (if bv = true then 1 else 0) by
              rw [List.take_add_one, hbv, List.count_append]
              cases bv <;> simp)
            obtain ⟨ct, hct⟩ : ∃ ct, (D.take j).count true = ct := ⟨_, rfl⟩
            rw [hct] at HTK hcj ⊢
            have hwr : IntKind.i64.wrap (((f + ct : Nat) : Int) + 1) = ((f + ct : Nat) : Int) + 1 := IntWalk.i64_in _ (by omega)
            clear hbv hct
            cases bv
            · have HN2 := Lib.hid (show (D.take (j + 1)).count true = ct by rw [HTK.out]; simp)
              clear HTK
              go_wp2_with fail
              go_roundw
              case rel => exact ⟨j + 1, by omega, by go_num, by rw [HN2.out] <;> simp, trivial⟩
              case measure => simp [intOf]; omega
            · have HN2 := Lib.hid (show (D.take (j + 1)).count true = ct + 1 by rw [HTK.out]; simp)
              clear HTK
              go_wp2_with fail
              go_roundw
              case rel => exact ⟨j + 1, by omega, by go_num, by rw [HN2.out, show ((f + (ct + 1) : Nat) : Int) = ((f + ct : Nat) : Int) + 1 by omega] <;> simp, trivial⟩
              case measure => simp [intOf]; omega
          · obtain rfl : j = n := by omega
            have HCT := Lib.hid (show (D.take j).count true = D.count true by rw [List.take_of_length_le (by rw [HDL.out]; omega)])
            rw [HCT.out]
            clear hcj
            go_wp2_with fail
            refine HDR.out.mono ?_
            rintro e w9 ⟨vc, vr, rfl, o9, b9⟩
            obtain ⟨A9, n9, c9, R9, m9, d9, rfl, rfl⟩ := o9.slices
            have hb7 := rb7.lt
            have rb9 := rb7.keep b9 hb7
            have o10 := Lib.hid ((o9.put hb7 (.slice A9 n9 c9) (.slice R9 m9 d9)).base (show w4.heap.size ≤ w7.heap.size by have := bb7.size; omega))
            have rb10 := Lib.hid ((rb9.put 0 (.slice A9 n9 c9)).put 1 (.slice R9 m9 d9))
            have b10 := Lib.hid (((bb7.trans (b9.mono bb7.size)).setCell (p := ⟨b, 0, none⟩) (by show w4.heap.size ≤ b; omega) (.slice A9 n9 c9)).setCell (p := ⟨b, 1, none⟩) (by show w4.heap.size ≤ b; omega) (.slice R9 m9 d9))
            have s0 : w9.cell? ⟨b, 0, none⟩ = some (.slice (some ⟨gc, oc, none⟩) j c5) := rb9.cell 0
            have s1 : w9.cell? ⟨b, 1, none⟩ = some (.slice R5 m d5) := rb9.cell 1
            have sf0 : w9.frozen? ⟨b, 0, none⟩ = false := rb9.frozen 0
            have sf1 : w9.frozen? ⟨b, 1, none⟩ = false := rb9.frozen 1
            clear HDR o9 rb7 rb9 bb7 b9 z0 z1
            go_wp2_with fail
            go_roundw
            case rel => exact ⟨k + 1, f + D.count true, _, _, _, by omega, by go_num, rfl, HN, rb10.out, o10.out, b10.out⟩
            case measure => simp [intOf]; omega
    · obtain rfl : k = n := by omega
      rw [HE.out] at HF
      simp only at HF
      have v0 := x0
      have v1 := x1
      have q3 := q3b.out.keep bb hsz4
      have b6 := B2K.out.trans (bb.mono B2K.out.size)
      have hrl := q3.lt
      have hw6 := b6.size
      have hcs : HS wr wr.heap.size A5 k R5 m x := hsr
      have HXR := Lib.hid (Hps.valid_refs HXV.out)
      have HXO := Lib.hid (Hps.valid_iff.1 HXV.out).2.2.2
      have HX3 : Hid (∀ cl ∈ x.cs, cl.r.length ≤ 1000000) := Lib.hid fun cl hcl => by have := hxs.2.2 cl hcl; omega
      clear x0 x1 hlt hxs
      go_upto_region 16 with fail
      refine wp_region_inv (by kernel_rfl) (by kernel_rfl) (fun L ac ww => ∃ t3 t48 t49 t50 t51 t52 : Value, ac = { tmps := #[ctV A k c R m d K p q, Value.pointer (some { block := w.heap.size, off := 0 }), Value.pointer (some { block := w.heap.size + 1, off := 0 }), t3, Value.pointer (some { block := b, off := 0 }), Value.int IntKind.i64 ↑f, Value.int IntKind.i64 ↑k, u7, u8, Value.agg #[Value.slice A k c, Value.slice R m d, Value.slice K p q], Value.bool true, Value.bool false, undef, Value.pointer (some { block := w.heap.size, off := 0 }), Value.agg #[Value.slice A k c, Value.slice R m d], Value.agg #[Value.slice A4 k c4, Value.slice R4 m d4], Value.int IntKind.i64 ↑k, Value.pointer (some { block := b, off := 0 }), Value.slice A5 k c5, Value.int IntKind.i64 ↑k, Value.bool false, u21, u22, u23, u24, u25, u26, u27, u28, u29, u30, u31, u32, u33, u34, u35, u36, u37, u38, u39, u40, u41, u42, u43, u44, u45, u46, u47, t48, t49, t50, t51, t52], defers := [] } ∧ (L 5 = false → Below wr.heap.size wr ww) ∧ (L 0 = true → t48 = .agg #[.slice A5 k c5, .slice R5 m d5]) ∧ (L 1 = true → t49 = .agg #[.slice A5 k c5, .slice R5 m d5]) ∧ (L 2 = true → ∃ K5 p5 q5, t50 = .slice K5 p5 q5 ∧ (L 5 = false → OwnI ww wr.heap.size t50 (Hps.countsL x))) ∧ (L 3 = true → t51 = .agg #[.slice A5 k c5, .slice R5 m d5, t50] ∧ L 2 = true) ∧ (L 4 = true → t52 = .int .i64 f) ∧ (L 5 = true → (∀ q, q < 4 → L q = true) ∧ ∃ wp K5 p5 q5, t50 = .slice K5 p5 q5 ∧ ww = ((((wp).setCell ⟨w.heap.size + 1, 0, none⟩ (.slice A5 k c5)).setCell ⟨w.heap.size + 1, 1, none⟩ (.slice R5 m d5)).setCell ⟨w.heap.size + 1, 2, none⟩ (t50)) ∧ Below wr.heap.size wr wp ∧ OwnI wp wr.heap.size t50 (Hps.countsL x)) ∧ (L 6 = true → t3 = .int .i64 f ∧ L 5 = true)) ?h0 ?hstep ?hdone
      case h0 => exact ⟨_, _, _, _, _, _, rfl, fun _ => (Below.refl _ _).drew, (fun h => absurd h Bool.false_ne_true), (fun h => absurd h Bool.false_ne_true), (fun h => absurd h Bool.false_ne_true), (fun h => absurd h Bool.false_ne_true), (fun h => absurd h Bool.false_ne_true), (fun h => absurd h Bool.false_ne_true), (fun h => absurd h Bool.false_ne_true)⟩
      case hstep =>
        rintro L ac ww i o ho hL hd ⟨t3, t48, t49, t50, t51, t52, rfl, I0, f0, f1, f2, f3, f4, f5, f6⟩
        have hi : i < 7 := (Array.getElem?_eq_some_iff.1 ho).1
        obtain rfl | rfl | rfl | rfl | rfl | rfl | rfl : i = 0 ∨ i = 1 ∨ i = 2 ∨ i = 3 ∨ i = 4 ∨ i = 5 ∨ i = 6 := by omega
        · obtain rfl := Option.some.inj ho
          have hL5 : L 5 = false := by
            cases e : L 5
            · rfl
            · exact absurd ((f5 e).1 0 (by decide)) (by rw [hL]; decide)
          have J := I0 hL5
          have z0 : ww.cell? ⟨b, 0, none⟩ = some (.slice A5 k c5) := (J.cell (p := ⟨b, 0, none⟩) hbl).trans v0
          have z1 : ww.cell? ⟨b, 1, none⟩ = some (.slice R5 m d5) := (J.cell (p := ⟨b, 1, none⟩) hbl).trans v1
          refine wpOp_step rfl (fun K' hK => ?_)
          go_simp
          refine hK _ _ ?_
          exact ⟨_, _, _, _, _, _, rfl, (fun _ => J), (fun _ => rfl), (kp f1), (fun h => by
            obtain ⟨K5, p5, q5, e8, r8⟩ := f2 (upd_ne h (by decide))
            exact ⟨K5, p5, q5, e8, fun h5 => r8 (by rw [upd_other (by decide)] at h5; exact h5)⟩), (fun h => ⟨(f3 (upd_ne h (by decide))).1, upd_mono (f3 (upd_ne h (by decide))).2⟩), (kp f4), (fun h => absurd hL5 (by rw [upd_ne h (by decide)]; decide)), (fun h => absurd (f6 (upd_ne h (by decide))).2 (by rw [hL5]; decide))⟩
        · obtain rfl := Option.some.inj ho
          have hL5 : L 5 = false := by
            cases e : L 5
            · rfl
            · exact absurd ((f5 e).1 1 (by decide)) (by rw [hL]; decide)
          have J := I0 hL5
          have z0 : ww.cell? ⟨b, 0, none⟩ = some (.slice A5 k c5) := (J.cell (p := ⟨b, 0, none⟩) hbl).trans v0
          have z1 : ww.cell? ⟨b, 1, none⟩ = some (.slice R5 m d5) := (J.cell (p := ⟨b, 1, none⟩) hbl).trans v1
          refine wpOp_step rfl (fun K' hK => ?_)
          go_simp
          refine hK _ _ ?_
          exact ⟨_, _, _, _, _, _, rfl, (fun _ => J), (kp f0), (fun _ => rfl), (fun h => by
            obtain ⟨K5, p5, q5, e8, r8⟩ := f2 (upd_ne h (by decide))
            exact ⟨K5, p5, q5, e8, fun h5 => r8 (by rw [upd_other (by decide)] at h5; exact h5)⟩), (fun h => ⟨(f3 (upd_ne h (by decide))).1, upd_mono (f3 (upd_ne h (by decide))).2⟩), (kp f4), (fun h => absurd hL5 (by rw [upd_ne h (by decide)]; decide)), (fun h => absurd (f6 (upd_ne h (by decide))).2 (by rw [hL5]; decide))⟩
        · obtain rfl := Option.some.inj ho
          have g1 := f1 (hd ⟨1, .data⟩ (by simp) rfl)
          subst g1
          have hL5 : L 5 = false := by
            cases e : L 5
            · rfl
            · exact absurd ((f5 e).1 2 (by decide)) (by rw [hL]; decide)
          have J := I0 hL5
          refine wpOp_step rfl (fun K' hK => ?_)
          go_simp
          refine (l7Counts_any A5 R5 k c5 m d5 x ww (hcs.up J) (by omega) (by omega) HXO.out HXR.out HX3.out).mono ?_
          rintro e w' ⟨v1, rfl, o1, b5⟩
          obtain ⟨K5, q5, e8, -⟩ := o1.form
          refine hK _ _ ?_
          exact ⟨_, _, _, _, _, _, rfl, (fun _ => J.trans (b5.mono J.size)), (kp f0), (kp f1), (fun _ => ⟨K5, _, q5, e8, fun _ => o1.base J.size⟩), (fun h => absurd (f3 (upd_ne h (by decide))).2 (by rw [hL]; decide)), (kp f4), (fun h => absurd hL5 (by rw [upd_ne h (by decide)]; decide)), (fun h => absurd (f6 (upd_ne h (by decide))).2 (by rw [hL5]; decide))⟩
        · obtain rfl := Option.some.inj ho
          have g0 := f0 (hd ⟨0, .data⟩ (by simp) rfl)
          have g2 := f2 (hd ⟨2, .data⟩ (by simp) rfl)
          subst g0
          have hL5 : L 5 = false := by
            cases e : L 5
            · rfl
            · exact absurd ((f5 e).1 3 (by decide)) (by rw [hL]; decide)
          have J := I0 hL5
          have l3 := Lib.hid (hd ⟨2, .data⟩ (by simp) rfl)
          obtain ⟨K5, p5, q5, e8, r8⟩ := g2
          subst e8
          refine wpOp_step rfl (fun K' hK => ?_)
          go_simp
          refine hK _ _ ?_
          exact ⟨_, _, _, _, _, _, rfl, (fun _ => J), (kp f0), (kp f1), (fun _ => ⟨K5, p5, q5, rfl, fun h7 => r8 (by rw [upd_other (by decide)] at h7; exact h7)⟩), (fun _ => ⟨rfl, upd_mono l3.out⟩), (kp f4), (fun h => absurd hL5 (by rw [upd_ne h (by decide)]; decide)), (fun h => absurd (f6 (upd_ne h (by decide))).2 (by rw [hL5]; decide))⟩
        · obtain rfl := Option.some.inj ho
          refine wpOp_step rfl (fun K' hK => ?_)
          go_simp
          refine hK _ _ ?_
          exact ⟨_, _, _, _, _, _, rfl, (fun h => I0 (by rw [upd_other (by decide)] at h; exact h)), (kp f0), (kp f1), (fun h => by
            obtain ⟨K5, p5, q5, e8, r8⟩ := f2 (upd_ne h (by decide))
            exact ⟨K5, p5, q5, e8, fun h5 => r8 (by rw [upd_other (by decide)] at h5; exact h5)⟩), (fun h => ⟨(f3 (upd_ne h (by decide))).1, upd_mono (f3 (upd_ne h (by decide))).2⟩), (fun _ => rfl), (fun h => by
            obtain ⟨a1, a2⟩ := f5 (upd_ne h (by decide))
            exact ⟨fun q hq => upd_mono (a1 q hq), a2⟩), (fun h => ⟨(f6 (upd_ne h (by decide))).1, upd_mono (f6 (upd_ne h (by decide))).2⟩)⟩
        · obtain rfl := Option.some.inj ho
          have g3 := f3 (hd ⟨3, .data⟩ (by simp) rfl)
          have lq : Hid (∀ q, q < 4 → L q = true) := Lib.hid (by
            intro q hq
            obtain rfl | rfl | rfl | rfl : q = 0 ∨ q = 1 ∨ q = 2 ∨ q = 3 := by omega
            · exact hd ⟨0, .phase⟩ (by simp) rfl
            · exact hd ⟨1, .phase⟩ (by simp) rfl
            · exact hd ⟨2, .phase⟩ (by simp) rfl
            · exact hd ⟨3, .phase⟩ (by simp) rfl)
          have J := I0 hL
          obtain ⟨e9, -⟩ := g3
          subst e9
          obtain ⟨K5, p5, q5, e8, r8⟩ := f2 (lq.out 2 (by decide))
          subst e8
          have o8 := r8 hL
          have P := q3.keep J hrl
          have zf0 : ww.frozen? ⟨w.heap.size + 1, 0, none⟩ = false := P.frozen 0
          have zf1 : ww.frozen? ⟨w.heap.size + 1, 1, none⟩ = false := P.frozen 1
          have zf2 : ww.frozen? ⟨w.heap.size + 1, 2, none⟩ = false := P.frozen 2
          have zc0 : ww.cell? ⟨w.heap.size + 1, 0, none⟩ = some (.slice none 0 0) := P.cell 0
          have zc1 : ww.cell? ⟨w.heap.size + 1, 1, none⟩ = some (.slice none 0 0) := P.cell 1
          have zc2 : ww.cell? ⟨w.heap.size + 1, 2, none⟩ = some (.slice none 0 0) := P.cell 2
          refine wpOp_step rfl (fun K' hK => ?_)
          go_simp
          refine hK _ _ ?_
          exact ⟨_, _, _, _, _, _, rfl, (fun h => absurd h (by rw [upd_self]; decide)), (kp f0), (kp f1), (fun _ => ⟨K5, p5, q5, rfl, fun h => absurd h (by rw [upd_self]; decide)⟩), (fun _ => ⟨rfl, upd_mono (lq.out 2 (by decide))⟩), (kp f4), (fun _ => ⟨fun q hq => upd_mono (lq.out q hq), ww, K5, p5, q5, rfl, rfl, J, o8⟩), (fun h => absurd (f6 (upd_ne h (by decide))).2 (by rw [hL]; decide))⟩
        · obtain rfl := Option.some.inj ho
          have g4 := f4 (hd ⟨4, .data⟩ (by simp) rfl)
          subst g4
          have l5 := Lib.hid (hd ⟨5, .chain⟩ (by simp) rfl)
          refine wpOp_step rfl (fun K' hK => ?_)
          go_simp
          refine hK _ _ ?_
          exact ⟨_, _, _, _, _, _, rfl, (fun h => absurd l5.out (by rw [upd_other (by decide)] at h; rw [h]; decide)), (kp f0), (kp f1), (fun h => by
            obtain ⟨K5, p5, q5, e8, r8⟩ := f2 (upd_ne h (by decide))
            exact ⟨K5, p5, q5, e8, fun h5 => absurd l5.out (by rw [upd_other (by decide)] at h5; rw [h5]; decide)⟩), (fun h => ⟨(f3 (upd_ne h (by decide))).1, upd_mono (f3 (upd_ne h (by decide))).2⟩), (kp f4), (fun h => by
            obtain ⟨a1, a2⟩ := f5 (upd_ne h (by decide))
            exact ⟨fun q hq => upd_mono (a1 q hq), a2⟩), (fun _ => ⟨rfl, upd_mono l5.out⟩)⟩
      case hdone =>
        rintro L ac ww hall ⟨t3, t48, t49, t50, t51, t52, rfl, I0, f0, f1, f2, f3, f4, f5, f6⟩
        have e0 := f0 (hall 0 (by decide))
        have e1 := f1 (hall 1 (by decide))
        have e2 := f2 (hall 2 (by decide))
        have e3 := f3 (hall 3 (by decide))
        have e4 := f4 (hall 4 (by decide))
        have e5 := f5 (hall 5 (by decide))
        have e6 := f6 (hall 6 (by decide))
        clear f0 f1 f2 f3 f4 f5 f6
        obtain ⟨-, wp, K5, p5, q5, rfl, rfl, r1, r9⟩ := e5
        obtain ⟨rfl, -⟩ := e6
        have hlo6 := bb.size
        have OC := OwnC.of S r1 r9 hlo6
        have P := q3.keep r1 hrl
        have bP := b6.trans (r1.mono hw6)
        have P4 := ((P.put 0 (.slice A5 k c5)).put 1 (.slice R5 m d5)).put 2 (.slice K5 p5 q5)
        have s8 : ((((wp).setCell ⟨w.heap.size + 1, 0, none⟩ (.slice A5 k c5)).setCell ⟨w.heap.size + 1, 1, none⟩ (.slice R5 m d5)).setCell ⟨w.heap.size + 1, 2, none⟩ (.slice K5 p5 q5)).cell? ⟨w.heap.size + 1, 0, none⟩ = some (.slice A5 k c5) := P4.cell 0
        have s9 : ((((wp).setCell ⟨w.heap.size + 1, 0, none⟩ (.slice A5 k c5)).setCell ⟨w.heap.size + 1, 1, none⟩ (.slice R5 m d5)).setCell ⟨w.heap.size + 1, 2, none⟩ (.slice K5 p5 q5)).cell? ⟨w.heap.size + 1, 1, none⟩ = some (.slice R5 m d5) := P4.cell 1
        have s10 : ((((wp).setCell ⟨w.heap.size + 1, 0, none⟩ (.slice A5 k c5)).setCell ⟨w.heap.size + 1, 1, none⟩ (.slice R5 m d5)).setCell ⟨w.heap.size + 1, 2, none⟩ (.slice K5 p5 q5)).cell? ⟨w.heap.size + 1, 2, none⟩ = some (.slice K5 p5 q5) := P4.cell 2
        have D := Lib.hid (OwnC.out (w := w) (g := w.heap.size + 1) OC (by omega) bP (by omega))
        clear I0 e0 e1 e2 e3 e4 hall r1 r9 P P4 OC bP S q3 b6 v0 v1
        go_wp2_with fail
        exact bodyPost_ret (v := .tuple #[.agg #[.slice A5 k c5, .slice R5 m d5, .slice K5 p5 q5], .int .i64 f]) (by simp [results, Tryd.results18, go_sem, *]) rfl ⟨_, _, _, by rw [HF.out], by rw [HF.out]; exact D.out.1, D.out.2⟩
end Go.Proofs.YtiojoailjiojjaaDoor

namespace Go.Proofs.YtiojoailjiojjaaDoor
open Go.RowKit
set_option maxRecDepth 100000
/-- the value v owns the numbers xs: a row that begins somewhere in a block, from block 'base' on -/
def OwnQ (w : World) (base : Nat) (v : Value) (xs : List Int) : Prop :=
  (v = .slice none 0 0 ∧ xs = []) ∨ ∃ g o cap cur, v = .slice (some ⟨g, o, none⟩) xs.length cap ∧ base ≤ g ∧ w.heap[g]? = some (.cells cur 3 (0, 0)) ∧ xs.length ≤ cap ∧ o + cap ≤ cur.size ∧ cap ≤ 9223372036854775807 ∧ ∀ (k : Nat) (u : Int), xs[k]? = some u → cur[o + k]? = some (.int .i64 u)
section
variable {w w' : World} {bs bs' B : Nat} {v : Value} {xs ys : List Int}
theorem OwnI.queue (h : OwnI w bs v xs) : OwnQ w bs v xs := by
  rcases h.2 with ⟨rfl, h0⟩ | ⟨g, cap, cur, rfl, hb, hh, hnc, hcap, hsz, hx⟩
  · exact .inl ⟨rfl, List.eq_nil_of_length_eq_zero h0⟩
  · refine .inr ⟨g, 0, cap, cur, rfl, hb, hh, hnc, by omega, by unfold maxLen at hcap; omega, fun k u hk => ?_⟩
    have h1 : (xs.map (Value.int .i64))[k]? = some (.int .i64 u) := by rw [List.getElem?_map, hk]; rfl
    rw [← hx, List.getElem?_take] at h1
    split at h1
    · rw [Nat.zero_add]; simpa using h1
    · cases h1
theorem OwnQ.lt (h : OwnQ w bs v xs) : ∀ k, v.ownBlock = some k → bs ≤ k ∧ k < w.heap.size := by
  intro k hk
  rcases h with ⟨rfl, _⟩ | ⟨g, o, cap, cur, rfl, hb, hh, _⟩
  · cases hk
  · obtain rfl : g = k := Option.some.inj hk
    exact ⟨hb, (Array.getElem?_eq_some_iff.1 hh).1⟩
theorem OwnQ.kept {row : Option Nat} (h : OwnQ w bs v xs) (hg : w.grownBy w' row) (hne : v.ownBlock = none ∨ v.ownBlock ≠ row) : OwnQ w' bs v xs := by
  rcases h with h0 | ⟨g, o, cap, cur, rfl, hb, hh, hr⟩
  · exact .inl h0
  · refine .inr ⟨g, o, cap, cur, rfl, hb, (hg.block g (Array.getElem?_eq_some_iff.1 hh).1 fun e => ?_).trans hh, hr⟩
    rcases hne with h1 | h1
    · cases h1
    · exact h1 e
theorem OwnQ.below (h : OwnQ w bs v xs) (hb : Below B w w') (hB : w.heap.size ≤ B) : OwnQ w' bs v xs := by
  rcases h with h0 | ⟨g, o, cap, cur, e, hb', hh, hr⟩
  · exact .inl h0
  · exact .inr ⟨g, o, cap, cur, e, hb', (hb.block g (Nat.lt_of_lt_of_le (Array.getElem?_eq_some_iff.1 hh).1 hB)).trans hh, hr⟩
theorem OwnQ.base (h : OwnQ w bs v xs) (hb : bs' ≤ bs) : OwnQ w bs' v xs := by
  rcases h with h0 | ⟨g, o, cap, cur, e, hb', hr⟩
  · exact .inl h0
  · exact .inr ⟨g, o, cap, cur, e, by omega, hr⟩
theorem OwnQ.form (h : OwnQ w bs v xs) : ∃ A c, v = .slice A xs.length c := by
  rcases h with ⟨rfl, rfl⟩ | ⟨g, o, cap, cur, rfl, _⟩
  · exact ⟨none, 0, rfl⟩
  · exact ⟨_, _, rfl⟩
end
end Go.Proofs.YtiojoailjiojjaaDoor

namespace Go.Proofs.YtiojoailjiojjaaDoor
open Go.RowKit
namespace Hps
/-- the numbers that are lost when the references rs are taken away from B ++ rs, one after the other -/
def lostF (B : List Int) : List Int → List Int
  | [] => []
  | t :: r => if t ≠ -1 ∧ t ∉ B ++ r then t :: lostF B r else lostF B r
theorem mem_lost {B : List Int} {x : Int} : ∀ {rs : List Int}, x ∈ lostF B rs ↔ x ∈ rs ∧ x ≠ -1 ∧ x ∉ B
  | [] => by simp [lostF]
  | t :: r => by
    rw [lostF]
    by_cases h : t ≠ -1 ∧ t ∉ B ++ r
    · rw [if_pos h, List.mem_cons, mem_lost, List.mem_cons]
      constructor
      · rintro (rfl | ⟨h1, h2, h3⟩)
        · exact ⟨.inl rfl, h.1, fun hb => h.2 (List.mem_append.2 (.inl hb))⟩
        · exact ⟨.inr h1, h2, h3⟩
      · rintro ⟨rfl | h1, h2, h3⟩
        · exact .inl rfl
        · exact .inr ⟨h1, h2, h3⟩
    · rw [if_neg h, mem_lost, List.mem_cons]
      constructor
      · rintro ⟨h1, h2, h3⟩
        exact ⟨.inr h1, h2, h3⟩
      · rintro ⟨rfl | h1, h2, h3⟩
        · refine ⟨?_, h2, h3⟩
          by_cases hr : x ∈ r
          · exact hr
          · exact absurd ⟨h2, fun hm => by rcases List.mem_append.1 hm with e | e; exact h3 e; exact hr e⟩ h
        · exact ⟨h1, h2, h3⟩
theorem lost_nodup (B : List Int) : ∀ rs : List Int, (lostF B rs).Nodup
  | [] => List.nodup_nil
  | t :: r => by
    rw [lostF]
    split
    · next h => exact List.nodup_cons.2 ⟨fun hm => h.2 (List.mem_append.2 (.inr (mem_lost.1 hm).1)), lost_nodup B r⟩
    · exact lost_nodup B r
/-- the used cells below n to which nothing leads, ascending -/
def idleL (h : Hp) (n : Nat) : List Int := ((List.range n).filter fun k => usedAt h.cs k && decide ((k : Int) ∉ refsOf h)).map fun (k : Nat) => (k : Int)
/-- the queue holds the used cells to which nothing leads, each once -/
structure Waits (x : Hp) (Q : List Int) : Prop where
  nodup : Q.Nodup
  mem : ∀ t : Int, t ∈ Q ↔ ∃ k : Nat, t = k ∧ usedAt x.cs k = true ∧ (k : Int) ∉ refsOf x
theorem Waits.start (x : Hp) : Waits x (idleL x x.cs.length) := by
  refine ⟨?_, fun t => ?_⟩
  · unfold idleL
    unfold List.Nodup
    rw [List.pairwise_map]
    exact (List.nodup_range.filter _).imp fun h e => h (by omega)
  · unfold idleL
    simp only [List.mem_map, List.mem_filter, List.mem_range, Bool.and_eq_true, decide_eq_true_eq]
    constructor
    · rintro ⟨k, ⟨_, h2, h3⟩, rfl⟩
      exact ⟨k, rfl, h2, h3⟩
    · rintro ⟨k, rfl, h2, h3⟩
      exact ⟨k, ⟨usedAt_lt h2, h2, h3⟩, rfl⟩
theorem free_refs {x : Hp} {k : Nat} {c : Cl} (hc : x.cs[k]? = some c) (t : Int) : (refsOf x).count t = (refsOf (freeK x k) ++ c.r).count t := by
  have key : ∀ (cs : List Cl) (k : Nat), cs[k]? = some c → ((cs.map (·.r)).flatten).count t = (((cs.set k freeCl).map (·.r)).flatten).count t + c.r.count t := by
    intro cs
    induction cs with
    | nil => intro k h; simp at h
    | cons a cs ih =>
      intro k h
      cases k with
      | zero =>
        obtain rfl : a = c := by simpa using h
        simp [freeCl, List.count_append]
        omega
      | succ k =>
        have := ih k (by simpa using h)
        simp only [List.set_cons_succ, List.map_cons, List.flatten_cons, List.count_append]
        omega
  simp only [refsOf, freeK, List.count_append]
  have := key x.cs k hc
  omega
theorem free_mem {x : Hp} {k : Nat} {c : Cl} (hc : x.cs[k]? = some c) (t : Int) : t ∈ refsOf x ↔ t ∈ refsOf (freeK x k) ∨ t ∈ c.r := by
  have h := free_refs hc t
  rw [← List.count_pos_iff, h, List.count_pos_iff, List.mem_append]
theorem used_free {x : Hp} {k j : Nat} (hk : k < x.cs.length) : usedAt (freeK x k).cs j = (usedAt x.cs j && decide (j ≠ k)) := by
  unfold usedAt freeK
  simp only []
  by_cases e : j = k
  · subst e
    rw [List.getElem?_set_self hk]
    simp [freeCl]
  · rw [List.getElem?_set_ne (by omega)]
    simp [e]
theorem Waits.next {x : Hp} {k : Nat} {c : Cl} {Q : List Int} (hv : validH x = true) (h : Waits x ((k : Int) :: Q)) (hc : x.cs[k]? = some c) : Waits (freeK x k) (Q ++ lostF (refsOf (freeK x k)) c.r) := by
  have hk : k < x.cs.length := (List.getElem?_eq_some_iff.1 hc).1
  obtain ⟨hkQ, hQ⟩ := List.nodup_cons.1 h.nodup
  obtain ⟨k', ek, _, hkn⟩ := (h.mem k).1 (by simp)
  obtain rfl : k = k' := by omega
  have hr := okRefs_iff.1 (okCell_iff.1 (valid_cell hv hc)).2.2.2
  have inQ : ∀ t, t ∈ Q → ∃ j : Nat, t = j ∧ usedAt x.cs j = true ∧ (j : Int) ∉ refsOf x ∧ j ≠ k := fun t ht => by
    obtain ⟨j, e, h1, h2⟩ := (h.mem t).1 (by simp [ht])
    exact ⟨j, e, h1, h2, fun e2 => hkQ (by rw [← e2, ← e]; exact ht)⟩
  refine ⟨?_, fun t => ?_⟩
  · rw [List.nodup_append]
    refine ⟨hQ, lost_nodup _ _, fun a ha b hb e => ?_⟩
    obtain ⟨j, rfl, _, h2, _⟩ := inQ a ha
    rw [← e] at hb
    exact h2 ((free_mem hc _).2 (.inr (mem_lost.1 hb).1))
  · rw [List.mem_append]
    constructor
    · rintro (ht | ht)
      · obtain ⟨j, rfl, h1, h2, h3⟩ := inQ t ht
        exact ⟨j, rfl, by rw [used_free hk, h1]; simp [h3], fun hm => h2 ((free_mem hc _).2 (.inl hm))⟩
      · obtain ⟨h1, h2, h3⟩ := mem_lost.1 ht
        rcases okRef_iff.1 (hr t h1) with e | ⟨e, hu⟩
        · exact absurd e h2
        · obtain ⟨j, rfl⟩ := Int.eq_ofNat_of_zero_le e
          refine ⟨j, rfl, ?_, h3⟩
          rw [used_free hk]
          have hu' : usedAt x.cs j = true := by simpa using hu
          rw [hu']
          have : j ≠ k := fun e2 => hkn ((free_mem hc _).2 (.inr (by rw [← e2]; exact h1)))
          simp [this]
    · rintro ⟨j, rfl, h1, h2⟩
      rw [used_free hk, Bool.and_eq_true, decide_eq_true_eq] at h1
      by_cases hm : (j : Int) ∈ refsOf x
      · right
        rcases (free_mem hc _).1 hm with e | e
        · exact absurd e h2
        · exact mem_lost.2 ⟨e, by omega, h2⟩
      · left
        have := (h.mem j).2 ⟨j, rfl, h1.1, hm⟩
        rcases List.mem_cons.1 this with e | e
        · exact absurd (by omega) h1.2
        · exact e
end Hps
end Go.Proofs.YtiojoailjiojjaaDoor

namespace Go.Proofs.YtiojoailjiojjaaDoor
open Go.RowKit
set_option maxRecDepth 100000
/-- counts and a queue in the box b, all from block B on -/
structure FqSt (wr : World) (B b : Nat) (vk vq : Value) (ks Q : List Int) : Prop where
  own : OwnI wr B vk ks
  que : OwnQ wr B vq Q
  sep : vk.ownBlock = none ∨ vk.ownBlock ≠ vq.ownBlock
  box : Rw wr b 158 #[vk, vq]
  lo : B ≤ b
section
variable {wr w' : World} {B b g i : Nat} {vk vq vq' : Value} {ks ks' Q Q' : List Int}
theorem que_type {w : World} {bs g : Nat} {t : TypeId} {v : Value} {xs : List Int} {cs : Array Value} (h : OwnQ w bs v xs) (hr : Rw w g t cs) (hne : t ≠ 3) : some g ≠ v.ownBlock := fun hg => by
  rcases h with ⟨rfl, _⟩ | ⟨g', o, cap, cur, rfl, _, hh, _⟩
  · cases hg
  · obtain rfl : g = g' := Option.some.inj hg
    have hr' : w.heap[g]? = some (.cells cs t (0, 0)) := hr
    rw [hr'] at hh
    injection hh with hh
    injection hh with h1 h2
    exact hne h2
/-- one count is written -/
theorem FqSt.cnt {n c : Nat} (S : FqSt wr B b (.slice (some ⟨g, 0, none⟩) n c) vq ks Q) (hn : ks.length = n) (x : Int) : FqSt (wr.setCell ⟨g, i, none⟩ (.int .i64 x)) B b (.slice (some ⟨g, 0, none⟩) n c) vq (ks.set i x) Q := by
  have h1 : some b ≠ some g := row_type S.own S.box (by decide)
  have hp := put_any wr g i (.int .i64 x)
  refine ⟨S.own.put' hn x, S.que.kept hp ?_, S.sep, S.box.other (fun e => h1 (by rw [e])) _, S.lo⟩
  rcases S.sep with e | e
  · cases e
  · exact .inr fun e2 => e (by rw [e2]; rfl)
theorem FqSt.app {w1 : World} (S : FqSt wr B b vk vq ks Q) (ho : OwnQ w1 B vq' Q') (hg : wr.grownBy w1 vq.ownBlock) (hq : vq'.ownBlock = vq.ownBlock ∨ vq'.ownBlock = some wr.heap.size) : FqSt (w1.setCell ⟨b, 1, none⟩ vq') B b vk vq' ks Q' := by
  have h1 : some b ≠ vq.ownBlock := que_type S.que S.box (by decide)
  have hbx := Rw.far S.box hg h1
  have hk1 : OwnI w1 B vk ks := S.own.far hg S.sep
  have hsep : vk.ownBlock = none ∨ vk.ownBlock ≠ vq'.ownBlock := by
    rcases hq with e | e
    · rw [e]; exact S.sep
    · cases e2 : vk.ownBlock with
      | none => exact .inl rfl
      | some k =>
        right
        rw [e]
        intro e3
        have := (World.ownsRow.lt S.own k e2).2
        have := Option.some.inj e3
        omega
  have h2 : some b ≠ vk.ownBlock := row_type hk1 hbx (by decide)
  have h3 : some b ≠ vq'.ownBlock := que_type ho hbx (by decide)
  have hp := put_any w1 b 1 vq'
  exact ⟨hk1.far hp (.inr h2.symm), ho.kept hp (.inr h3.symm), hsep, hbx.put 1 vq', S.lo⟩
theorem FqSt.keep {w1 : World} (S : FqSt wr B b vk vq ks Q) (hk : ∀ j, B ≤ j → j < wr.heap.size → w1.heap[j]? = wr.heap[j]?) : FqSt w1 B b vk vq ks Q := by
  refine ⟨⟨S.own.1, ?_⟩, ?_, S.sep, (hk b S.lo S.box.lt).trans S.box, S.lo⟩
  · rcases S.own.2 with h0 | ⟨g, cap, cur, e, hb', hh, hr⟩
    · exact .inl h0
    · exact .inr ⟨g, cap, cur, e, hb', (hk g hb' (Array.getElem?_eq_some_iff.1 hh).1).trans hh, hr⟩
  · rcases S.que with h0 | ⟨g, o, cap, cur, e, hb', hh, hr⟩
    · exact .inl h0
    · exact .inr ⟨g, o, cap, cur, e, hb', (hk g hb' (Array.getElem?_eq_some_iff.1 hh).1).trans hh, hr⟩
end
end Go.Proofs.YtiojoailjiojjaaDoor

namespace Go.Proofs.YtiojoailjiojjaaDoor
open Go.RowKit
set_option maxRecDepth 100000
theorem OwnQ.grown {w w' : World} {bs : Nat} {v : Value} {xs : List Int} (h : OwnQ w bs v xs) (hk : ∀ j, j < w.heap.size → w'.heap[j]? = w.heap[j]?) : OwnQ w' bs v xs := by
  rcases h with h0 | ⟨g, o, cap, cur, e, hb', hh, hr⟩
  · exact .inl h0
  · exact .inr ⟨g, o, cap, cur, e, hb', (hk g (Array.getElem?_eq_some_iff.1 hh).1).trans hh, hr⟩
/-- counts and a queue go into a new box -/
theorem FqSt.of {w : World} {B : Nat} {vk vq : Value} {ks Q : List Int} (ok : OwnI w B vk ks) (oq : OwnQ w B vq Q) (hs : vk.ownBlock = none ∨ vk.ownBlock ≠ vq.ownBlock) (hB : B ≤ w.heap.size) :
    FqSt (w.alloc (.cells #[vk, vq] 158)) B w.heap.size vk vq ks Q := by
  have b0 : Below w.heap.size w (w.alloc (.cells #[vk, vq] 158)) := (Below.refl _ _).alloc (Nat.le_refl _) _
  exact ⟨ok.below b0 (Nat.le_refl _), oq.below b0 (Nat.le_refl _), hs, Rw.new w 158 #[vk, vq], hB⟩
theorem FqSt.alloc {wr : World} {B b : Nat} {vk vq : Value} {ks Q : List Int} (S : FqSt wr B b vk vq ks Q) (o : Obj) : FqSt (wr.alloc o) B b vk vq ks Q := S.keep (fun j _ hj => Below.heap_alloc _ _ j hj)
end Go.Proofs.YtiojoailjiojjaaDoor

namespace Go.Proofs.YtiojoailjiojjaaDoor
open Go.RowKit
set_option maxRecDepth 100000
section
variable {w0 wr w1 : World} {b B g : Nat} {vc vr : Value} {rvs : List Value} {h : Hp}
end
end Go.Proofs.YtiojoailjiojjaaDoor

namespace Go.Proofs.YtiojoailjiojjaaDoor
open Go.RowKit
set_option maxRecDepth 100000
end Go.Proofs.YtiojoailjiojjaaDoor

namespace Go.Proofs.YtiojoailjiojjaaDoor
open Go.RowKit
set_option maxRecDepth 100000
end Go.Proofs.YtiojoailjiojjaaDoor

namespace Go.Proofs.YtiojoailjiojjaaDoor
open Go.RowKit
set_option maxRecDepth 100000
end Go.Proofs.YtiojoailjiojjaaDoor

namespace Go.Proofs.YtiojoailjiojjaaDoor
open Go.RowKit
set_option maxRecDepth 100000
theorem BoxSt.form {w0 wr : World} {b : Nat} {vc vr : Value} {rvs : List Value} {h : Hp} (S : BoxSt w0 wr b vc vr rvs h) (hl : 0 < h.rt.length) : ∃ A c gr d, vc = .slice A h.cs.length c ∧ vr = .slice (some ⟨gr, 0, none⟩) h.rt.length d ∧ (0 < h.cs.length → ∃ g, A = some ⟨g, 0, none⟩) := by
  obtain ⟨A, c, R, d, e1, e2, _, _, fA, fR⟩ := S.own.form
  obtain ⟨gr, rfl, _, _⟩ := fR hl
  exact ⟨A, c, gr, d, e1, e2, fun h => by obtain ⟨g, e, _⟩ := fA h; exact ⟨g, e⟩⟩
end Go.Proofs.YtiojoailjiojjaaDoor

namespace Go.Proofs.YtiojoailjiojjaaDoor
open Go.RowKit
set_option maxRecDepth 100000
theorem info_intsize : (Tryd.prog.info? 3).map (·.size) = some 1 := by kernel_rfl
/-- k times -1, then 0 up to N -/
def repN (N k : Nat) : List Value := List.replicate k (.int .i64 (-1)) ++ List.replicate (N - k) (.int .i64 0)
def RowN (w : World) (g N k : Nat) : Prop := w.heap[g]? = some (.cells (repN N k).toArray 3 (0, 0))
theorem RowN.cell {w : World} {g N k j : Nat} (h : RowN w g N k) (hj : j < k) : w.cell? ⟨g, j, none⟩ = some (.int .i64 (-1)) := by
  have : (repN N k)[j]? = some (.int .i64 (-1)) := by
    unfold repN
    rw [List.getElem?_append_left (by simpa using hj)]
    simp [hj]
  have e : w.cell? ⟨g, j, none⟩ = (repN N k).toArray[j]? := Rw.cell (cs := (repN N k).toArray) h j
  rw [e]
  simpa using this
theorem RowN.put {w : World} {g N k : Nat} (h : RowN w g N k) (j : Nat) : RowN (w.setRow g (repN N j).toArray) g N j := setRow_heap w g _ _ _ _ h
end Go.Proofs.YtiojoailjiojjaaDoor

namespace Go.Proofs.YtiojoailjiojjaaDoor
open Go.RowKit
set_option maxRecDepth 100000
end Go.Proofs.YtiojoailjiojjaaDoor

namespace Go.Proofs.YtiojoailjiojjaaDoor
open Go.RowKit
set_option maxRecDepth 100000
end Go.Proofs.YtiojoailjiojjaaDoor

namespace Go.Proofs.YtiojoailjiojjaaDoor
open Go.RowKit
set_option maxRecDepth 100000
namespace Hps
end Hps
end Go.Proofs.YtiojoailjiojjaaDoor

namespace Go.Proofs.YtiojoailjiojjaaDoor
open Go.RowKit
set_option maxRecDepth 100000
namespace Hps
end Hps
end Go.Proofs.YtiojoailjiojjaaDoor

namespace Go.Proofs.YtiojoailjiojjaaDoor
open Go.RowKit
/-- worlds in which what was there is as it was -/
def InW (w0 w : World) : Prop := Below w0.heap.size w0 w
theorem InW.cell {w0 w : World} (h : InW w0 w) {p : Addr} {v : Value} (hp : p.block < w0.heap.size) (hc : w0.cell? p = some v) : w.cell? p = some v := (Below.cell h hp).trans hc
theorem InW.call {w0 w w' : World} (h : InW w0 w) (hb : Below w.heap.size w w') : InW w0 w' := Below.trans h (hb.mono (Below.size h))
set_option maxRecDepth 100000 in
set_option maxHeartbeats 4000000 in
theorem sameHeap_same (A R A' R' : Option Addr) (n c m d c' d' : Nat) (h : Hp) (w : World) (hs : HS w w.heap.size A n R m h) (hs' : HS w w.heap.size A' n R' m h) (hn : n ≤ 1000000) (hm : m ≤ 1000000) (hb : ∀ cl ∈ h.cs, cl.r.length ≤ 1000000) :
    Calls Tryd.prog 62 #[heapV A n c R m d, heapV A' n c' R' m d'] w fun e w' => e = .returned (.bool true) ∧ Below w.heap.size w w' := by
  have b2 : Below w.heap.size w ((w.alloc (.cells #[.slice A n c, .slice R m d] 26)).alloc (.cells #[.slice A' n c', .slice R' m d'] 26)) := ((Below.refl w.heap.size w).alloc (Nat.le_refl _) _).alloc (by simp) _
  have q1 := (Rw.new w 26 #[.slice A n c, .slice R m d]).alloc (.cells #[.slice A' n c', .slice R' m d'] 26)
  have q2 := Rw.new (w.alloc (.cells #[.slice A n c, .slice R m d] 26)) 26 #[.slice A' n c', .slice R' m d']
  rw [World.size_alloc] at q2
  have hne : ((n : Int) != n) = false := by simp
  have HB := Lib.hid hb
  clear hb
  go_enter Tryd.func62, Tryd.ntmps62
  go_upto_region 1 with fail
  generalize (w.alloc (.cells #[.slice A n c, .slice R m d] 26)).alloc (.cells #[.slice A' n c', .slice R' m d'] 26) = w0 at b2 q1 q2 ⊢
  have y0 : w0.cell? ⟨w.heap.size, 0, none⟩ = some (.slice A n c) := q1.cell 0
  have y1 : w0.cell? ⟨w.heap.size + 1, 0, none⟩ = some (.slice A' n c') := q2.cell 0
  go_wp2_with fail
  clear y0 y1
  go_loopw [5] (fun i wr => ∃ k : Nat, k ≤ n ∧ i = .int .i64 k ∧ Below w0.heap.size w0 wr) (fun i _ => n - (intOf i).toNat)
  case atStart => exact ⟨0, Nat.zero_le _, rfl, Below.refl _ _⟩
  case round =>
    obtain ⟨k, hk, rfl, bw⟩ := hrel
    have bb := b2.trans (bw.mono b2.size)
    have r1 := q1.keep bw q1.lt
    have r2 := q2.keep bw q2.lt
    have hx0 := r1.lt
    have hx1 := r2.lt
    have x0 : wr.cell? ⟨w.heap.size, 0, none⟩ = some (.slice A n c) := r1.cell 0
    have x1 : wr.cell? ⟨w.heap.size + 1, 0, none⟩ = some (.slice A' n c') := r2.cell 0
    by_cases hlt : k < n
    · obtain ⟨g, o, cl, A1, m1, cc, rfl, hg, hcl, d1, d2, d3, -, hi⟩ := (hs.cells.below bb).at_ hlt
      obtain ⟨g', o', cl', A1', m1', cc', rfl, hg', hcl', d1', d2', d3', -, hi'⟩ := (hs'.cells.below bb).at_ hlt
      rw [hcl] at hcl'
      injection hcl' with hcl'
      subst hcl'
      obtain rfl : m1 = m1' := hi.1.symm.trans hi'.1
      have hlt' : (k : Int) < n := by omega
      have hgw : g < wr.heap.size := by have := bb.size; omega
      have hgw' : g' < wr.heap.size := by have := bb.size; omega
      have hm1 : m1 ≤ 1000000 := by rw [← hi.1]; exact HB.out cl (List.mem_of_getElem? hcl)
      have j1 := hi.more bb.size
      have j2 := hi'.more bb.size
      have Ca := Lib.hid (fun (ww : World) (hw : InW wr ww) => show ww.cell? ⟨w.heap.size, 0, none⟩ = some (.slice (some ⟨g, o, none⟩) n c) from hw.cell (by show _ < wr.heap.size; first | exact hx0 | omega) x0)
      have Cb := Lib.hid (fun (ww : World) (hw : InW wr ww) => show ww.cell? ⟨w.heap.size + 1, 0, none⟩ = some (.slice (some ⟨g', o', none⟩) n c') from hw.cell (by show _ < wr.heap.size; first | exact hx1 | omega) x1)
      have Cc := Lib.hid (fun (ww : World) (hw : InW wr ww) => show ww.cell? ⟨g, o + k * 3, none⟩ = some (.bool cl.u) from hw.cell (by show _ < wr.heap.size; first | exact hgw | omega) d1)
      have Cd := Lib.hid (fun (ww : World) (hw : InW wr ww) => show ww.cell? ⟨g', o' + k * 3, none⟩ = some (.bool cl.u) from hw.cell (by show _ < wr.heap.size; first | exact hgw' | omega) d1')
      have Ce := Lib.hid (fun (ww : World) (hw : InW wr ww) => show ww.cell? ⟨g, o + k * 3 + 1, none⟩ = some (.int .i64 cl.d) from hw.cell (by show _ < wr.heap.size; first | exact hgw | omega) d2)
      have Cf := Lib.hid (fun (ww : World) (hw : InW wr ww) => show ww.cell? ⟨g', o' + k * 3 + 1, none⟩ = some (.int .i64 cl.d) from hw.cell (by show _ < wr.heap.size; first | exact hgw' | omega) d2')
      have Cg := Lib.hid (fun (ww : World) (hw : InW wr ww) => show ww.cell? ⟨g, o + k * 3 + 2, none⟩ = some (.slice A1 m1 cc) from hw.cell (by show _ < wr.heap.size; first | exact hgw | omega) d3)
      have Ch := Lib.hid (fun (ww : World) (hw : InW wr ww) => show ww.cell? ⟨g', o' + k * 3 + 2, none⟩ = some (.slice A1' m1 cc') from hw.cell (by show _ < wr.heap.size; first | exact hgw' | omega) d3')
      have CI := Lib.hid (fun w' (hw' : InW wr w') => (sameInts_any A1 A1' m1 m1 cc cc' cl.r cl.r w' ((j1.below hw').more (Below.size hw')) ((j2.below hw').more (Below.size hw')) (by omega) (by omega)).mono (R' := fun e w'' => e = .returned (.bool true) ∧ InW wr w'') fun e w'' hh => ⟨by rw [decide_eq_true rfl] at hh; exact hh.1, hw'.call hh.2⟩)
      have hdd : (cl.d != cl.d) = false := by simp
      have hnu : (!(cl.u == cl.u)) = false := by simp
      go_wp2_with fail
      clear d1 d2 d3 d1' d2' d3' x0 x1 hi hi' hcl
      cases hu : cl.u
      · rw [hu] at Cc Cd
        refine wp_region_quiet (C := InW wr) (by kernel_rfl) (by kernel_rfl) (show InW wr _ from (Below.refl _ _).drew) ?_
        repeat (
          refine wpQuiet_step (fun K hK => ?_)
          go_simp
          first
          | (refine hK _ ?_
             clear hK K)
          | ((with_reducible refine ⟨_, fun _ _ => rfl, hK _ ?_⟩)
             clear hK K)
          | ((with_reducible refine ⟨_, CI.out, hK _ ?_⟩)
             clear hK K)
          | (refine ⟨.slice (some ⟨g, o, none⟩) n c, fun w' hw' => ?_, hK _ ?_⟩
             · have hcw := Ca.out w' hw'
               go_simp
               done
             clear hK K)
          | (refine ⟨.slice (some ⟨g', o', none⟩) n c', fun w' hw' => ?_, hK _ ?_⟩
             · have hcw := Cb.out w' hw'
               go_simp
               done
             clear hK K)
          | (refine ⟨.bool false, fun w' hw' => ?_, hK _ ?_⟩
             · have hcw := Cc.out w' hw'
               go_simp
               done
             clear hK K)
          | (refine ⟨.bool false, fun w' hw' => ?_, hK _ ?_⟩
             · have hcw := Cd.out w' hw'
               go_simp
               done
             clear hK K)
          | (refine ⟨.int .i64 cl.d, fun w' hw' => ?_, hK _ ?_⟩
             · have hcw := Ce.out w' hw'
               go_simp
               done
             clear hK K)
          | (refine ⟨.int .i64 cl.d, fun w' hw' => ?_, hK _ ?_⟩
             · have hcw := Cf.out w' hw'
               go_simp
               done
             clear hK K)
          | (refine ⟨.slice A1 m1 cc, fun w' hw' => ?_, hK _ ?_⟩
             · have hcw := Cg.out w' hw'
               go_simp
               done
             clear hK K)
          | (refine ⟨.slice A1' m1 cc', fun w' hw' => ?_, hK _ ?_⟩
             · have hcw := Ch.out w' hw'
               go_simp
               done
             clear hK K)
          )
        refine wpQuiet_nil ?_
        intro w5 hw5
        have b5 : Below w0.heap.size w0 w5 := bw.trans ((show Below wr.heap.size wr w5 from hw5).mono bw.size)
        clear Ca Cb Cc Cd Ce Cf Cg Ch CI
        go_wp2_with fail
        go_roundw
        case rel => exact ⟨k + 1, by omega, by go_num, b5⟩
        case measure => simp [intOf]; omega
      · rw [hu] at Cc Cd
        refine wp_region_quiet (C := InW wr) (by kernel_rfl) (by kernel_rfl) (show InW wr _ from (Below.refl _ _).drew) ?_
        repeat (
          refine wpQuiet_step (fun K hK => ?_)
          go_simp
          first
          | (refine hK _ ?_
             clear hK K)
          | ((with_reducible refine ⟨_, fun _ _ => rfl, hK _ ?_⟩)
             clear hK K)
          | ((with_reducible refine ⟨_, CI.out, hK _ ?_⟩)
             clear hK K)
          | (refine ⟨.slice (some ⟨g, o, none⟩) n c, fun w' hw' => ?_, hK _ ?_⟩
             · have hcw := Ca.out w' hw'
               go_simp
               done
             clear hK K)
          | (refine ⟨.slice (some ⟨g', o', none⟩) n c', fun w' hw' => ?_, hK _ ?_⟩
             · have hcw := Cb.out w' hw'
               go_simp
               done
             clear hK K)
          | (refine ⟨.bool true, fun w' hw' => ?_, hK _ ?_⟩
             · have hcw := Cc.out w' hw'
               go_simp
               done
             clear hK K)
          | (refine ⟨.bool true, fun w' hw' => ?_, hK _ ?_⟩
             · have hcw := Cd.out w' hw'
               go_simp
               done
             clear hK K)
          | (refine ⟨.int .i64 cl.d, fun w' hw' => ?_, hK _ ?_⟩
             · have hcw := Ce.out w' hw'
               go_simp
               done
             clear hK K)
          | (refine ⟨.int .i64 cl.d, fun w' hw' => ?_, hK _ ?_⟩
             · have hcw := Cf.out w' hw'
               go_simp
               done
             clear hK K)
          | (refine ⟨.slice A1 m1 cc, fun w' hw' => ?_, hK _ ?_⟩
             · have hcw := Cg.out w' hw'
               go_simp
               done
             clear hK K)
          | (refine ⟨.slice A1' m1 cc', fun w' hw' => ?_, hK _ ?_⟩
             · have hcw := Ch.out w' hw'
               go_simp
               done
             clear hK K)
          )
        refine wpQuiet_nil ?_
        intro w5 hw5
        have b5 : Below w0.heap.size w0 w5 := bw.trans ((show Below wr.heap.size wr w5 from hw5).mono bw.size)
        clear Ca Cb Cc Cd Ce Cf Cg Ch CI
        go_wp2_with fail
        go_roundw
        case rel => exact ⟨k + 1, by omega, by go_num, b5⟩
        case measure => simp [intOf]; omega
    · obtain rfl : k = n := by omega
      have z0 : wr.cell? ⟨w.heap.size, 1, none⟩ = some (.slice R m d) := r1.cell 1
      have z1 : wr.cell? ⟨w.heap.size + 1, 1, none⟩ = some (.slice R' m d') := r2.cell 1
      have t1 := hs.roots.below bb
      have t2 := hs'.roots.below bb
      go_wp2_with fail
      refine (sameInts_any _ _ _ _ _ _ h.rt h.rt _ (t1.more bb.size) (t2.more bb.size) (by omega) (by omega)).mono ?_
      rw [decide_eq_true rfl]
      rintro e w5 ⟨rfl, b5⟩
      have bf := bb.trans (b5.mono bb.size)
      go_wp2_with fail
      go_ret
      exact ⟨rfl, bf⟩
end Go.Proofs.YtiojoailjiojjaaDoor

