/- Chapter 12, deep walks in plain mathematics: what MarkDepth answers, and that it has the cells of MetOrder (P62, P123). No program, no conditions. -/
import Derived.Test.YtmjejcfifkbkoaaGv
namespace Go.Proofs.Ytmjejcfifkbkoaa
namespace Hps

/-- the numbers p are walked from, each as deep as possible: l was met before, r is met then -/
inductive Dfs (cs : List Cl) : List Int → List Int → List Int → Prop
  | nil {l : List Int} : Dfs cs [] l l
  | skip {n : Int} {p l r : List Int} : (n < 0 ∨ n ∈ l) → Dfs cs p l r → Dfs cs (n :: p) l r
  | go {n : Int} {p l r : List Int} : 0 ≤ n → n ∉ l → Dfs cs (refsAt cs n ++ p) (l ++ [n]) r → Dfs cs (n :: p) l r
theorem Dfs.one {cs : List Cl} {p l r r' : List Int} (h : Dfs cs p l r) (h' : Dfs cs p l r') : r = r' := by
  induction h with
  | nil => cases h'; rfl
  | skip h1 _ ih =>
    cases h' with
    | skip _ h2 => exact ih h2
    | go h0 hn _ =>
      rcases h1 with h1 | h1
      · omega
      · exact absurd h1 hn
  | go h0 hn _ ih =>
    cases h' with
    | skip h1 _ =>
      rcases h1 with h1 | h1
      · omega
      · exact absurd h1 hn
    | go _ _ h2 => exact ih h2
theorem Dfs.append {cs : List Cl} {a b l m r : List Int} (h : Dfs cs a l m) (h' : Dfs cs b m r) : Dfs cs (a ++ b) l r := by
  induction h with
  | nil => exact h'
  | skip h1 _ ih => exact .skip h1 (ih h')
  | go h0 hn _ ih =>
    refine .go h0 hn ?_
    have := ih h'
    rw [List.append_assoc] at this
    exact this
theorem Dfs.split {cs : List Cl} {q l r : List Int} (h : Dfs cs q l r) : ∀ a b : List Int, q = a ++ b → ∃ m, Dfs cs a l m ∧ Dfs cs b m r := by
  induction h with
  | nil =>
    intro a b e
    obtain ⟨rfl, rfl⟩ := List.append_eq_nil_iff.1 e.symm
    exact ⟨_, .nil, .nil⟩
  | skip h1 h2 ih =>
    intro a b e
    cases a with
    | nil =>
      rw [List.nil_append] at e
      subst e
      exact ⟨_, .nil, .skip h1 h2⟩
    | cons x a =>
      rw [List.cons_append] at e
      injection e with e1 e2
      subst e1
      obtain ⟨m, m1, m2⟩ := ih a b e2
      exact ⟨m, .skip h1 m1, m2⟩
  | go h0 hn h2 ih =>
    intro a b e
    cases a with
    | nil =>
      rw [List.nil_append] at e
      subst e
      exact ⟨_, .nil, .go h0 hn h2⟩
    | cons x a =>
      rw [List.cons_append] at e
      injection e with e1 e2
      subst e1 e2
      obtain ⟨m, m1, m2⟩ := ih (refsAt cs _ ++ a) b (by rw [List.append_assoc])
      exact ⟨m, .go h0 hn m1, m2⟩
theorem Dfs.pre {cs : List Cl} {p l r : List Int} (h : Dfs cs p l r) : l <+: r := by
  induction h with
  | nil => exact List.prefix_refl _
  | skip _ _ ih => exact ih
  | go _ _ _ ih => exact (List.prefix_append _ _).trans ih
theorem Dfs.nodup {cs : List Cl} {p l r : List Int} (h : Dfs cs p l r) : l.Nodup → r.Nodup := by
  induction h with
  | nil => exact id
  | skip _ _ ih => exact ih
  | go _ hn _ ih =>
    intro hl
    refine ih (List.nodup_append.2 ⟨hl, by simp, fun a ha b hb e => ?_⟩)
    simp at hb
    subst hb e
    exact hn ha
theorem Dfs.has {cs : List Cl} {p l r : List Int} (h : Dfs cs p l r) : ∀ n ∈ p, 0 ≤ n → n ∈ r := by
  induction h with
  | nil => intro n hn; simp at hn
  | skip h1 h2 ih =>
    intro n hn h0
    rcases List.mem_cons.1 hn with e | hn
    · subst e
      rcases h1 with h1 | h1
      · omega
      · exact h2.pre.subset h1
    · exact ih n hn h0
  | go _ _ h2 ih =>
    intro n hn h0
    rcases List.mem_cons.1 hn with e | hn
    · subst e
      exact h2.pre.subset (by simp)
    · exact ih n (by simp [hn]) h0
theorem Dfs.done {cs : List Cl} {p l r : List Int} (h : Dfs cs p l r) : ∀ n ∈ r, n ∉ l → ∀ m ∈ refsAt cs n, 0 ≤ m → m ∈ r := by
  induction h with
  | nil => intro n hn hl; exact absurd hn hl
  | skip _ _ ih => exact ih
  | @go n0 p l r h0 hn h2 ih =>
    intro n hr hl m hm h0'
    by_cases e : n = n0
    · subst e
      exact h2.has m (by simp [hm]) h0'
    · exact ih n hr (by simp [hl, e]) m hm h0'
theorem Dfs.inside {cs : List Cl} {S : Int → Prop} (hS : ∀ n, S n → ∀ m ∈ refsAt cs n, 0 ≤ m → S m) {p l r : List Int} (h : Dfs cs p l r) : (∀ n ∈ p, 0 ≤ n → S n) → ∀ n ∈ r, n ∈ l ∨ (0 ≤ n ∧ S n) := by
  induction h with
  | nil => intro _ n hn; exact .inl hn
  | skip _ _ ih => intro hp; exact ih fun n hn => hp n (by simp [hn])
  | @go n0 p l r h0 hn h2 ih =>
    intro hp n hr
    have s0 := hp n0 (by simp) h0
    rcases ih (fun m hm h0' => by
      rcases List.mem_append.1 hm with h | h
      · exact hS _ s0 m h h0'
      · exact hp m (by simp [h]) h0') n hr with h | h
    · rcases List.mem_append.1 h with h | h
      · exact .inl h
      · simp at h
        subst h
        exact .inr ⟨h0, s0⟩
    · exact .inr h
theorem InB.snoc {cs : List Cl} {l : List Int} (h : InB cs l) {n : Int} (hn : okRef cs n = true) (h0 : 0 ≤ n) : InB cs (l ++ [n]) := by
  intro m hm
  rcases List.mem_append.1 hm with h1 | h1
  · exact h m h1
  · simp at h1
    subst h1
    obtain ⟨k, e, hk, _⟩ := okRef_nat hn h0
    exact ⟨k, e, hk⟩
theorem nodup_snoc {l : List Int} {n : Int} (hl : l.Nodup) (hn : n ∉ l) : (l ++ [n]).Nodup := by
  refine List.nodup_append.2 ⟨hl, by simp, fun a ha b hb e => ?_⟩
  simp at hb
  subst hb e
  exact hn ha
theorem Dfs.inb {cs : List Cl} (hc : ∀ c ∈ cs, okRefs cs c.r = true) {p l r : List Int} (h : Dfs cs p l r) : okRefs cs p = true → InB cs l → InB cs r := by
  induction h with
  | nil => exact fun _ h => h
  | skip _ _ ih => intro hp hl; exact ih (okRefs_iff.2 fun n hn => okRefs_iff.1 hp n (by simp [hn])) hl
  | @go n0 p l r h0 hn h2 ih =>
    intro hp hl
    refine ih (okRefs_iff.2 fun n hn => ?_) (hl.snoc (okRefs_iff.1 hp _ (by simp)) h0)
    rcases List.mem_append.1 hn with h | h
    · exact okRefs_iff.1 (refsAt_ok hc _) n h
    · exact okRefs_iff.1 hp n (by simp [h])
theorem Dfs.ex {cs : List Cl} (hc : ∀ c ∈ cs, okRefs cs c.r = true) : ∀ (u : Nat) (p l : List Int), okRefs cs p = true → InB cs l → l.Nodup → cs.length ≤ u + l.length → ∃ r, Dfs cs p l r := by
  intro u
  induction u with
  | zero =>
    intro p
    induction p with
    | nil => intro l _ _ _ _; exact ⟨l, .nil⟩
    | cons n p ih =>
      intro l hp hi hd hu
      have hp' : okRefs cs p = true := okRefs_iff.2 fun m hm => okRefs_iff.1 hp m (by simp [hm])
      by_cases h1 : n < 0 ∨ n ∈ l
      · obtain ⟨r, hr⟩ := ih l hp' hi hd hu
        exact ⟨r, .skip h1 hr⟩
      · exfalso
        have h0 : 0 ≤ n := by omega
        have hn : n ∉ l := fun h => h1 (.inr h)
        have := (hi.snoc (okRefs_iff.1 hp n (by simp)) h0).le (nodup_snoc hd hn)
        rw [List.length_append, List.length_singleton] at this
        omega
  | succ u ihu =>
    intro p
    induction p with
    | nil => intro l _ _ _ _; exact ⟨l, .nil⟩
    | cons n p ih =>
      intro l hp hi hd hu
      have hp' : okRefs cs p = true := okRefs_iff.2 fun m hm => okRefs_iff.1 hp m (by simp [hm])
      by_cases h1 : n < 0 ∨ n ∈ l
      · obtain ⟨r, hr⟩ := ih l hp' hi hd hu
        exact ⟨r, .skip h1 hr⟩
      · have h0 : 0 ≤ n := by omega
        have hn : n ∉ l := fun h => h1 (.inr h)
        obtain ⟨r, hr⟩ := ihu (refsAt cs n ++ p) (l ++ [n]) (okRefs_iff.2 fun m hm => by
          rcases List.mem_append.1 hm with h | h
          · exact okRefs_iff.1 (refsAt_ok hc _) m h
          · exact okRefs_iff.1 hp' m h) (hi.snoc (okRefs_iff.1 hp n (by simp)) h0) (nodup_snoc hd hn) (by rw [List.length_append, List.length_singleton]; omega)
        exact ⟨r, .go h0 hn hr⟩

open Classical in
/-- what MarkDepth answers for a valid heap -/
noncomputable def depthL (cs : List Cl) (rt : List Int) : List Int := if h : ∃ r, Dfs cs rt [] r then Classical.choose h else []
theorem depthL_eq {cs : List Cl} {rt r : List Int} (h : Dfs cs rt [] r) : depthL cs rt = r := by
  have hx : ∃ r, Dfs cs rt [] r := ⟨r, h⟩
  rw [depthL, dif_pos hx]
  exact (Classical.choose_spec hx).one h
noncomputable def depthH (h : Hp) : List Int := if validH h = true then depthL h.cs h.rt else []
theorem depth_not {h : Hp} (hv : validH h = false) : depthH h = [] := by rw [depthH, if_neg (by rw [hv]; decide)]
theorem depth_dfs {h : Hp} (hv : validH h = true) : Dfs h.cs h.rt [] (depthH h) := by
  obtain ⟨r, hr⟩ := Dfs.ex (valid_refs hv) h.cs.length h.rt [] (valid_iff.1 hv).2.2.2 (fun n hn => by simp at hn) (by simp) (by simp)
  rw [depthH, if_pos hv, depthL_eq hr]
  exact hr
theorem depth_eq {h : Hp} (hv : validH h = true) {r : List Int} (hr : Dfs h.cs h.rt [] r) : depthH h = r := (depth_dfs hv).one hr
theorem depth_nodup (h : Hp) : (depthH h).Nodup := by
  cases hv : validH h
  · rw [depth_not hv]; simp
  · exact (depth_dfs hv).nodup (by simp)
theorem depth_nat {h : Hp} {n : Int} (hn : n ∈ depthH h) : ∃ k : Nat, n = k ∧ k < h.cs.length := by
  cases hv : validH h
  · rw [depth_not hv] at hn; simp at hn
  · exact (depth_dfs hv).inb (valid_refs hv) (valid_iff.1 hv).2.2.2 (fun n hn => by simp at hn) n hn
theorem mem_depth {h : Hp} (hv : validH h = true) {k : Nat} : (k : Int) ∈ depthH h ↔ Rch h.cs h.rt k := by
  have D := depth_dfs hv
  constructor
  · intro hk
    rcases D.inside (S := fun n => Rch h.cs h.rt n.toNat) (fun n hn m hm h0 => by
      unfold refsAt at hm
      cases e : h.cs[n.toNat]? with
      | none => rw [e] at hm; simp at hm
      | some c =>
        rw [e] at hm
        exact .step hn e (by rwa [Int.toNat_of_nonneg h0])) (fun n hn h0 => .root (by rwa [Int.toNat_of_nonneg h0])) _ hk with h1 | ⟨_, h1⟩
    · simp at h1
    · exact h1
  · intro hr
    refine Rch.inside (S := fun k : Nat => (k : Int) ∈ depthH h) (fun k hk => D.has _ hk (by omega)) (fun k m c hk hc hm => ?_) hr
    exact D.done _ hk (by simp) m (by unfold refsAt; rw [Int.toNat_natCast, hc]; exact hm) (by omega)
theorem depth_order {h : Hp} {n : Int} : n ∈ depthH h ↔ n ∈ orderH h := by
  cases hv : validH h
  · rw [depth_not hv, orderH, if_neg (by rw [hv]; decide)]
  · constructor
    · intro hn
      obtain ⟨k, rfl, _⟩ := depth_nat hn
      exact (mem_order hv).2 ((mem_depth hv).1 hn)
    · intro hn
      obtain ⟨k, rfl, _⟩ := order_nat hn
      exact (mem_depth hv).2 ((mem_order hv).1 hn)
theorem depth_perm (h : Hp) : (depthH h).Perm (orderH h) := (List.perm_ext_iff_of_nodup (depth_nodup h) (order_nodup h)).2 fun _ => depth_order
/-- P123: as many -/
theorem depth_len (h : Hp) : (depthH h).length = (orderH h).length := (depth_perm h).length_eq
theorem depth_le (h : Hp) : (depthH h).length ≤ h.cs.length := by rw [depth_len]; exact order_len h
theorem head_pre {l r : List Int} (h : l <+: r) {x : Int} (hx : l.head? = some x) : r.head? = some x := by
  obtain ⟨t, rfl⟩ := h
  cases l with
  | nil => simp at hx
  | cons y l => exact hx
theorem Dfs.head {cs : List Cl} : ∀ {p r : List Int}, Dfs cs p [] r → r.head? = p.find? fun n => decide (0 ≤ n)
  | [], r, h => by
    cases h
    rfl
  | n :: p, r, h => by
    cases h with
    | skip h1 h2 =>
      rcases h1 with h1 | h1
      · rw [List.find?_cons_of_neg (by simp; omega)]
        exact h2.head
      · simp at h1
    | go h0 _ h2 =>
      rw [List.find?_cons_of_pos (by simp; omega)]
      exact head_pre h2.pre (by simp)
theorem meet_head : ∀ ns : List Int, (meet [] ns).head? = ns.find? fun n => decide (0 ≤ n)
  | [] => rfl
  | n :: ns => by
    rw [meet_cons]
    by_cases h0 : 0 ≤ n
    · rw [List.find?_cons_of_pos (by simp; omega)]
      refine head_pre (meet_prefix ns _) ?_
      simp [meet1, h0]
    · rw [List.find?_cons_of_neg (by simp; omega), show meet1 [] n = [] by simp [meet1, h0]]
      exact meet_head ns
theorem bfs_pre (cs : List Cl) : ∀ (f k : Nat) (l : List Int), l <+: bfs cs f k l
  | 0, _, l => List.prefix_refl l
  | f + 1, k, l => by
    unfold bfs
    cases e : l[k]? with
    | none => exact List.prefix_refl l
    | some n => exact (meet_prefix _ l).trans (bfs_pre cs f (k + 1) _)
/-- P123: the first one -/
theorem depth_first (h : Hp) : (depthH h).head? = (orderH h).head? := by
  cases hv : validH h
  · rw [depth_not hv, orderH, if_neg (by rw [hv]; decide)]
  · rw [(depth_dfs hv).head, order_valid hv, ← meet_head]
    cases e : (meet [] h.rt).head? with
    | none =>
      have : meet [] h.rt = [] := List.head?_eq_none_iff.1 e
      rw [orderL, this]
      rfl
    | some x => exact (head_pre (bfs_pre _ _ _ _) e).symm
end Hps
end Go.Proofs.Ytmjejcfifkbkoaa
