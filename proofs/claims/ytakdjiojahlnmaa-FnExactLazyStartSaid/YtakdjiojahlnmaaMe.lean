/- A heap that is copied cell by cell: its cells whole first, then the references of each. No conditions. -/
import Derived.Test.YtakdjiojahlnmaaHx
import Derived.Test.YtakdjiojahlnmaaKz
import Derived.Test.YtakdjiojahlnmaaKd
namespace Go.Proofs.Ytakdjiojahlnmaa
open Go.RowKit
set_option maxRecDepth 100000

theorem own_noneC (w : World) (base : Nat) (hb : base ≤ w.heap.size) : (w.alloc (.cells #[] 45)).ownsRow base 45 3 (.slice (some ⟨w.heap.size, 0, none⟩) 0 0) 0 [] :=
  World.ownsRow_lit (base := base) (e := 45) (size := 3) w #[] 0 hb (by unfold maxLen; omega) rfl
theorem wpList_appendCs {w : World} {ops : Array Oper} {rest : List Oper} {o : Oper} {a : Act} {Q : Exit → Act → World → Prop} (hgd : o.guard = none) (s x : Operand)
    (ho : o.op = .call { callee := .builtin .append, args := #[s, x], argTypes := #[23, 23] })
    (base : Nat) (v : Value) (n : Nat) (vs : List Value) (hs : a.eval s = v) (hown : w.ownsRow base 45 3 v n vs) (A : Option Addr) (m c : Nat) (ys : List Value) (hx : a.eval x = .slice A m c) (hl : ys.length = m * 3)
    (hA : 0 < m → ∃ ad, A = some ad ∧ ∀ j u, ys[j]? = some u → w.cell? (ad.add j) = some u) (h1 : ∀ u ∈ ys, u.oneCell' = true) (hn : n + m ≤ 1099511627776) (hbase : base ≤ w.heap.size)
    (h : ∀ v' w', w'.ownsRow base 45 3 v' (n + m) (vs ++ ys) → w.grownBy w' v.ownBlock → (v'.ownBlock = v.ownBlock ∨ v'.ownBlock = some w.heap.size) → wpList Try.prog ops Q rest (a.put o.dst v') w') : wpList Try.prog ops Q (o :: rest) a w :=
  wpList_plain hgd fun _ hK => app_stepCs hgd s x ho base v n vs hs hown A m c ys hx hl hA h1 hn hbase fun v' w' e1 e2 e3 => hK _ _ (h v' w' e1 e2 e3)

/-- cells, copied whole -/
theorem cloneC_any (A : Option Addr) (n c : Nat) (cs : List Cl) (rvs : List Value) (w : World) (hl : cs.length = n) (hr : RefsAt w w.heap.size cs rvs)
    (hA : 0 < n → ∃ g o, A = some ⟨g, o, none⟩ ∧ g < w.heap.size ∧ ∀ (j : Nat) (u : Value), (flatC cs rvs)[j]? = some u → w.cell? ⟨g, o + j, none⟩ = some u) (hn : n ≤ 1099511627776) :
    Calls Try.prog 82 #[.slice A n c] w fun e w' => ∃ v, e = .returned v ∧ w'.ownsRow w.heap.size 45 3 v n (flatC cs rvs) ∧ Below w.heap.size w w' := by
  have q : ∀ (w : World) (a : Option Addr) (n c n' c' : Nat), (binOp .eql 23 (.slice a n c) (.slice none n' c')).run Try.prog w = .ok (.bool a.isNone) w := fun w a n c n' c' => Lib.run_eql_slice_nil w _ _ a n c n' c' Try.underlying23
  have hfl := flatC_length _ _ hr.1
  rw [hl] at hfl
  cases A with
  | none =>
    have h0 : n = 0 := by
      rcases Nat.eq_zero_or_pos n with h0 | h0
      · exact h0
      · obtain ⟨g, o, e, _⟩ := hA h0
        cases e
    subst h0
    have hnil : flatC cs rvs = [] := List.eq_nil_of_length_eq_zero (by omega)
    rw [hnil]
    clear hfl hA hr
    go_enter Try.func82, Try.ntmps82
    go_wp2
    go_ret
    exact ⟨_, rfl, World.ownsRow_nil _ _ _ _, Below.refl _ _⟩
  | some a =>
    have o0 := own_noneC w w.heap.size (Nat.le_refl _)
    have bl0 : Below w.heap.size w (w.alloc (.cells #[] 45)) := (Below.refl _ _).alloc (Nat.le_refl _) _
    have hone := hr.one
    obtain ⟨ys, hys⟩ : ∃ ys, flatC cs rvs = ys := ⟨_, rfl⟩
    rw [hys] at hA hfl hone ⊢
    have hA2 : 0 < n → ∃ ad, some a = some ad ∧ ∀ (j : Nat) (u : Value), ys[j]? = some u → (w.alloc (.cells #[] 45)).cell? (ad.add j) = some u := fun h0 => by
      obtain ⟨g, o, e, hg, hc⟩ := hA h0
      refine ⟨a, rfl, fun j u hu => ?_⟩
      rw [Option.some.inj e, add_lit]
      exact (bl0.cell (p := ⟨g, o + j, none⟩) hg).trans (hc j u hu)
    clear hr hA hys hl
    go_enter Try.func82, Try.ntmps82
    go_wp2_with (at_builtin; refine wpList_appendCs rfl (.tmp 5) (.tmp 6) rfl w.heap.size _ 0 [] rfl o0 (some a) n c ys rfl hfl hA2 hone (by omega) (by simp) ?_; intro v1 w1 o1 g1 s1)
    go_ret
    refine ⟨_, rfl, ?_, bl0.grown g1 (by simp) (fun k hk => (World.ownsRow.lt o0 k hk).1)⟩
    simpa using o1

/-- a copy of which the first k cells have references of their own; the others share theirs still -/
structure MidH (w : World) (base : Nat) (vc vr : Value) (ovs rvs : List Value) (k : Nat) (h : Hp) : Prop where
  len : ovs.length = k
  le : k ≤ h.cs.length
  all : rvs.length = h.cs.length
  row : w.ownsRow base 45 3 vc h.cs.length (flatC h.cs (ovs ++ rvs.drop k))
  refs : ∀ (j : Nat) (c : Cl) (v : Value), h.cs[j]? = some c → ovs[j]? = some v → OwnI w base v c.r
  roots : OwnI w base vr h.rt
  sep : Sep (vc :: vr :: ovs)
section
variable {w w' : World} {base k : Nat} {vc vr v : Value} {ovs rvs : List Value} {h : Hp}
theorem MidH.below (S : MidH w base vc vr ovs rvs k h) {B : Nat} (hb : Below B w w') (hB : w.heap.size ≤ B) : MidH w' base vc vr ovs rvs k h :=
  ⟨S.len, S.le, S.all, row_below S.row hb hB, fun j c v hc hv => (S.refs j c v hc hv).below hb hB, S.roots.below hb hB, S.sep⟩
theorem MidH.blocks (S : MidH w base vc vr ovs rvs k h) {v : Value} (hv : v ∈ vc :: vr :: ovs) {b : Nat} (hb : v.ownBlock = some b) : base ≤ b ∧ b < w.heap.size := by
  simp only [List.mem_cons] at hv
  rcases hv with rfl | rfl | hv
  · exact World.ownsRow.lt S.row b hb
  · exact World.ownsRow.lt S.roots b hb
  · obtain ⟨i, hi⟩ := List.mem_iff_getElem?.1 hv
    have hlt := (List.getElem?_eq_some_iff.1 hi).1
    have hc := List.getElem?_eq_getElem (show i < h.cs.length by have := S.len; have := S.le; omega)
    exact World.ownsRow.lt (S.refs i _ v hc hi) b hb
/-- what lies in no block of the copy's is apart from it -/
theorem MidH.apart_new (S : MidH w base vc vr ovs rvs k h) {b : Nat} (hb : w.heap.size ≤ b) : Apart (some b) (vc :: vr :: ovs) := fun v hv => by
  cases e : v.ownBlock with
  | none => exact .inl rfl
  | some q =>
    right
    have := (S.blocks hv e).2
    intro he
    have he := Option.some.inj he
    omega
theorem MidH.apart_old (S : MidH w base vc vr ovs rvs k h) {b : Nat} (hb : b < base) : Apart (some b) (vc :: vr :: ovs) := fun v hv => by
  cases e : v.ownBlock with
  | none => exact .inl rfl
  | some q =>
    right
    have := (S.blocks hv e).1
    intro he
    have he := Option.some.inj he
    omega
theorem MidH.far (S : MidH w base vc vr ovs rvs k h) {row : Option Nat} (hg : w.grownBy w' row) (ha : Apart row (vc :: vr :: ovs)) : MidH w' base vc vr ovs rvs k h :=
  ⟨S.len, S.le, S.all, World.ownsRow.kept S.row hg (ha vc (by simp)), fun j c v hc hv => (S.refs j c v hc hv).far hg (ha v (by simp [List.mem_of_getElem? hv])), S.roots.far hg (ha vr (by simp)), S.sep⟩
theorem MidH.base' (S : MidH w base vc vr ovs rvs k h) {b : Nat} (hb : b ≤ base) : MidH w b vc vr ovs rvs k h :=
  ⟨S.len, S.le, S.all, row_base S.row hb, fun j c v hc hv => (S.refs j c v hc hv).base hb, S.roots.base hb, S.sep⟩
/-- the next cell gets references of its own -/
theorem MidH.next {g n c : Nat} {cl : Cl} (S : MidH w base (.slice (some ⟨g, 0, none⟩) n c) vr ovs rvs k h) (hn : h.cs.length = n) (hc : h.cs[k]? = some cl) (o : OwnI w base v cl.r)
    (hap : ∀ u ∈ (Value.slice (some ⟨g, 0, none⟩) n c) :: vr :: ovs, v.ownBlock = none ∨ v.ownBlock ≠ u.ownBlock) : MidH (w.setCell ⟨g, k * 3 + 2, none⟩ v) base (.slice (some ⟨g, 0, none⟩) n c) vr (ovs ++ [v]) rvs (k + 1) h := by
  have hk : k < h.cs.length := (List.getElem?_eq_some_iff.1 hc).1
  have hsp := S.sep
  unfold Sep at hsp
  rw [List.pairwise_cons, List.pairwise_cons] at hsp
  have ap : ∀ u ∈ vr :: ovs, u.ownBlock = none ∨ u.ownBlock ≠ some g := fun u hu => sep_back (hsp.1 u hu)
  have hvg : v.ownBlock = none ∨ v.ownBlock ≠ some g := hap (.slice (some ⟨g, 0, none⟩) n c) (by simp)
  refine ⟨by simp [S.len], by omega, S.all, ?_, fun j c' u hc' hu => ?_, S.roots.far (put_any w g _ _) (ap vr (by simp)), ?_⟩
  · have hrow : w.ownsRow base 45 3 (.slice (some ⟨g, 0, none⟩) h.cs.length c) h.cs.length (flatC h.cs (ovs ++ rvs.drop k)) := by
      have := S.row
      rwa [hn] at this ⊢
    have q := (World.ownsRow.stored hrow (k * 3 + 2) v).1
    rw [flatC_set_r _ _ _ _ _ cl.r (by simp [S.len, S.all]; omega) hc] at q
    have e1 : h.cs.set k ⟨cl.u, cl.d, cl.r⟩ = h.cs := by
      obtain ⟨h1, h2⟩ := List.getElem?_eq_some_iff.1 hc
      show h.cs.set k cl = h.cs
      rw [← h2]
      exact List.set_getElem_self h1
    have e2 : (ovs ++ rvs.drop k).set k v = (ovs ++ [v]) ++ rvs.drop (k + 1) := by
      rw [List.set_append_right _ _ (by rw [S.len]; exact Nat.le_refl _), S.len, Nat.sub_self, List.append_assoc]
      congr 1
      rw [List.drop_eq_getElem_cons (by rw [S.all]; exact hk)]
      rfl
    rw [e1, e2] at q
    rw [hn] at q ⊢
    exact q
  · rcases Nat.lt_or_ge j k with hj | hj
    · rw [List.getElem?_append_left (by rw [S.len]; exact hj)] at hu
      exact (S.refs j c' u hc' hu).far (put_any w g _ _) (ap u (by simp [List.mem_of_getElem? hu]))
    · have hjk : j = k := by
        have := (List.getElem?_eq_some_iff.1 hu).1
        simp [S.len] at this
        omega
      subst hjk
      rw [hc] at hc'
      rw [List.getElem?_append_right (by rw [S.len]; exact Nat.le_refl _), S.len, Nat.sub_self] at hu
      have hu : v = u := by simpa using hu
      rw [← hu, ← Option.some.inj hc']
      exact o.far (put_any w g _ _) hvg
  · unfold Sep
    rw [List.pairwise_cons, List.pairwise_cons]
    refine ⟨fun u hu => ?_, fun u hu => ?_, ?_⟩
    · rw [List.mem_cons, List.mem_append, List.mem_singleton] at hu
      rcases hu with rfl | hu | rfl
      · exact hsp.1 u (by simp)
      · exact hsp.1 u (by simp [hu])
      · exact sep_back (hap _ (by simp))
    · rw [List.mem_append, List.mem_singleton] at hu
      rcases hu with hu | rfl
      · exact hsp.2.1 u hu
      · exact sep_back (hap _ (by simp))
    · rw [List.pairwise_append]
      refine ⟨hsp.2.2, List.pairwise_singleton _ _, fun a ha b hb => ?_⟩
      rw [List.mem_singleton] at hb
      subst hb
      exact sep_back (hap a (by simp [ha]))
theorem MidH.done (S : MidH w base vc vr ovs rvs k h) (hk : k = h.cs.length) : OwnHx w base vc vr ovs h := by
  refine ⟨by rw [S.len, hk], ?_, S.refs, S.roots, S.sep⟩
  have := S.row
  rwa [hk, List.drop_of_length_le (by rw [S.all]; exact Nat.le_refl _), List.append_nil] at this
theorem MidH.form (S : MidH w base vc vr ovs rvs k h) : ∃ A c R d, vc = .slice A h.cs.length c ∧ vr = .slice R h.rt.length d ∧ h.cs.length ≤ c ∧ (0 < h.cs.length → ∃ g, A = some ⟨g, 0, none⟩ ∧ base ≤ g ∧ g < w.heap.size) := by
  obtain ⟨R, d, rfl, hR⟩ := S.roots.form
  rcases S.row.2 with ⟨e, h0⟩ | ⟨g, cap, cur, e, hb, hh, hc, _⟩
  · exact ⟨none, 0, R, d, by rw [e, h0], rfl, by omega, fun h => by omega⟩
  · exact ⟨some ⟨g, 0, none⟩, cap, R, d, e, rfl, hc, fun _ => ⟨g, rfl, hb, (Array.getElem?_eq_some_iff.1 hh).1⟩⟩
/-- the references that the next cell still shares -/
theorem MidH.ref {g n c : Nat} {cl : Cl} {B : Nat} (S : MidH w base (.slice (some ⟨g, 0, none⟩) n c) vr ovs rvs k h) (hn : h.cs.length = n) (hc : h.cs[k]? = some cl) (hr : RefsAt w B h.cs rvs) :
    ∃ A m cc, w.cell? ⟨g, k * 3 + 2, none⟩ = some (.slice A m cc) ∧ m ≤ cc ∧ IS w B A m cl.r ∧ ∀ i, w.frozen? ⟨g, i, none⟩ = false := by
  have hk : k < h.cs.length := (List.getElem?_eq_some_iff.1 hc).1
  have hv := List.getElem?_eq_getElem (show k < rvs.length by rw [S.all]; exact hk)
  obtain ⟨A, m, cc, e, hm, hi⟩ := hr.2 k cl _ hc hv
  have hv2 : (ovs ++ rvs.drop k)[k]? = some (.slice A m cc) := by
    rw [List.getElem?_append_right (by rw [S.len]; exact Nat.le_refl _), S.len, Nat.sub_self, List.getElem?_drop, Nat.add_zero, hv, e]
  obtain ⟨_, _, f3⟩ := flatC_at _ _ _ _ _ hc hv2
  have hrow : w.ownsRow base 45 3 (.slice (some ⟨g, 0, none⟩) h.cs.length c) h.cs.length (flatC h.cs (ovs ++ rvs.drop k)) := by
    have := S.row
    rwa [hn] at this ⊢
  exact ⟨A, m, cc, (World.ownsRow.cellAt hrow _ (by omega)).trans f3, hm, hi, fun i => World.ownsRow.frozenAt hrow i⟩
end
end Go.Proofs.Ytakdjiojahlnmaa
