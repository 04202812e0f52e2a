/- Strongly connected components in plain mathematics: a walk that meets cells and divides them into components, as what holds before and behind each of its steps. No program, no conditions. -/
import Derived.Test.YtiojoailjiojjaaDoorRa
namespace Go.Proofs.YtiojoailjiojjaaDoor
namespace Hps

/-- a cell refers to another one -/
def Edge (cs : List Cl) (x y : Nat) : Prop := ∃ c, cs[x]? = some c ∧ (y : Int) ∈ c.r
theorem Edge.rch {cs : List Cl} {x y : Nat} (h : Edge cs x y) : Rch cs [(x : Int)] y := by
  obtain ⟨c, h1, h2⟩ := h
  exact .step (Rch.self cs x) h1 h2

/-- a walk: how many cells were met, when, those that wait, and the components -/
structure Tw where
  met : Nat
  t : List Int
  o : List Int
  f : List Nat
def Vis (S : Tw) (k : Nat) : Prop := ∃ y, S.t[k]? = some y ∧ y ≠ 0

structure TwOk (cs : List Cl) (S : Tw) : Prop where
  len : S.t.length = cs.length
  cnt : S.met + S.t.count 0 = cs.length
  le : cs.length ≤ 40
  few : S.f.length + S.o.length ≤ S.met
  rng : ∀ (k : Nat) (x : Int), S.t[k]? = some x → 0 ≤ x ∧ (x ≤ S.met ∨ x = 41)
  opn : ∀ x ∈ S.o, ∃ (k : Nat) (y : Int), x = k ∧ S.t[k]? = some y ∧ 1 ≤ y ∧ y ≤ S.met
  opn' : ∀ (k : Nat) (y : Int), S.t[k]? = some y → 1 ≤ y → y ≤ S.met → (k : Int) ∈ S.o
  nd : S.o.Nodup
  fnd : ∀ k : Nat, S.t[k]? = some 41 ↔ ∃ w ∈ S.f, w.testBit k = true
  clo : ∀ a b : Nat, S.t[a]? = some 41 → Edge cs a b → S.t[b]? = some 41
  str : ∀ w ∈ S.f, ∀ a b : Nat, w.testBit a = true → w.testBit b = true → Rch cs [(a : Int)] b
  top : S.f.Pairwise fun w w' => ∀ a b : Nat, w.testBit a = true → (a = b ∨ Edge cs a b) → w'.testBit b = false
theorem TwOk.met_le {cs : List Cl} {S : Tw} (h : TwOk cs S) : S.met ≤ 40 := by have := h.cnt; have := h.le; omega

/-- what a walk that waits for other cells has found of a cell's references -/
def Seen (S S' : Tw) (n : Int) (x : Nat) : Prop := Vis S' x ∧ ((x : Int) ∈ S.o → ∀ q, S.t[x]? = some q → n ≤ q)

/-- what a visit of cell number v does -/
structure TwPost (cs : List Cl) (S : Tw) (v : Nat) (n : Int) (S' : Tw) : Prop where
  ok : TwOk cs S'
  met : S.met ≤ S'.met
  keep : ∀ (k : Nat) (y : Int), S.t[k]? = some y → y ≠ 0 → S'.t[k]? = some y
  late : ∀ (k : Nat) (y : Int), S'.t[k]? = some y → y ≠ 0 → S.t[k]? = some 0 → (S.met : Int) < y ∧ Rch cs [(v : Int)] k
  vis : Vis S' v
  self : ∀ y, S.t[v]? = some y → y ≠ 0 → n ≤ y
  rch : (S.met : Int) < n ∨ ∃ z : Nat, S.t[z]? = some n ∧ 1 ≤ n ∧ Rch cs [(v : Int)] z
  opn : ∃ tl : List Int, S'.o = S.o ++ tl ∧ ∀ y : Nat, (y : Int) ∈ tl → (∀ x, Edge cs y x → Seen S S' n x) ∧ ∃ x : Nat, (x : Int) ∈ S.o ∧ Rch cs [(y : Int)] x

/-- what holds within a visit of cell number v: some of its references are visited -/
structure TwIn (cs : List Cl) (S : Tw) (v : Nat) (R : List Int) (n : Int) (S' : Tw) : Prop where
  pre : TwOk cs S
  ok : TwOk cs S'
  met : S.met + 1 ≤ S'.met
  keep : ∀ (k : Nat) (y : Int), S.t[k]? = some y → y ≠ 0 → S'.t[k]? = some y
  late : ∀ (k : Nat) (y : Int), S'.t[k]? = some y → y ≠ 0 → S.t[k]? = some 0 → (S.met : Int) < y ∧ Rch cs [(v : Int)] k
  tv : S'.t[v]? = some ((S.met : Int) + 1)
  t0 : S.t[v]? = some 0
  lev : n ≤ (S.met : Int) + 1
  rch : n = (S.met : Int) + 1 ∨ ∃ z : Nat, S.t[z]? = some n ∧ 1 ≤ n ∧ Rch cs [(v : Int)] z
  done : ∀ x : Nat, (x : Int) ∈ R → Seen S S' n x
  opn : ∃ tl : List Int, S'.o = S.o ++ (v : Int) :: tl ∧ ∀ y : Nat, (y : Int) ∈ tl → (∀ x, Edge cs y x → Seen S S' n x) ∧ ∃ x : Nat, ((x : Int) ∈ S.o ∨ x = v) ∧ Rch cs [(y : Int)] x

/-- a cell that was met before -/
theorem TwPost.seen {cs : List Cl} {S : Tw} {v : Nat} {y : Int} (h : TwOk cs S) (hy : S.t[v]? = some y) (h0 : y ≠ 0) : TwPost cs S v y S := by
  refine ⟨h, Nat.le_refl _, fun k z h1 _ => h1, fun k z h1 h2 h3 => ?_, ⟨y, hy, h0⟩, fun z h1 _ => ?_, ?_, [], by simp, fun z hz => by simp at hz⟩
  · rw [h1] at h3
    exact absurd (Option.some.inj h3) h2
  · rw [hy] at h1
    have := Option.some.inj h1
    omega
  · obtain ⟨h1, h2 | h2⟩ := h.rng v y hy
    · exact .inr ⟨v, hy, by omega, Rch.self cs v⟩
    · have := h.met_le
      exact .inl (by omega)

theorem count_set0 {l : List Int} {v : Nat} {y : Int} (h : l[v]? = some 0) (hy : y ≠ 0) : (l.set v y).count 0 + 1 = l.count 0 := by
  induction l generalizing v with
  | nil => simp at h
  | cons a l ih =>
    cases v with
    | zero =>
      obtain rfl : a = 0 := by simpa using h
      simp [hy]
    | succ v =>
      have := ih (v := v) (by simpa using h)
      simp only [List.set_cons_succ, List.count_cons]
      omega

/-- a cell is met -/
theorem TwIn.enter {cs : List Cl} {S : Tw} {v : Nat} (h : TwOk cs S) (hv : S.t[v]? = some 0) : TwIn cs S v [] ((S.met : Int) + 1) ⟨S.met + 1, S.t.set v ((S.met : Int) + 1), S.o ++ [(v : Int)], S.f⟩ := by
  have hlt := (List.getElem?_eq_some_iff.1 hv).1
  have hc := count_set0 (y := (S.met : Int) + 1) hv (by omega)
  have hm := h.cnt
  have hle := h.le
  have get : ∀ (k : Nat) (y : Int), (S.t.set v ((S.met : Int) + 1))[k]? = some y ↔ (k = v ∧ y = (S.met : Int) + 1) ∨ (k ≠ v ∧ S.t[k]? = some y) := by
    intro k y
    rw [List.getElem?_set]
    by_cases e : v = k
    · subst e
      simp [hlt, eq_comm]
    · rw [if_neg e]
      simp [show ¬ k = v from fun q => e q.symm]
  have h41 : ∀ k : Nat, (S.t.set v ((S.met : Int) + 1))[k]? = some 41 ↔ S.t[k]? = some 41 := by
    intro k
    rw [get]
    constructor
    · rintro (⟨_, h2⟩ | ⟨_, h2⟩)
      · omega
      · exact h2
    · intro h2
      refine .inr ⟨?_, h2⟩
      rintro rfl
      rw [hv] at h2
      simp at h2
  have hvo : (v : Int) ∉ S.o := by
    intro q
    obtain ⟨k, y, h1, h2, h3, h4⟩ := h.opn _ q
    obtain rfl : v = k := by omega
    rw [hv] at h2
    have := Option.some.inj h2
    omega
  refine ⟨h, ⟨?_, ?_, hle, ?_, ?_, ?_, ?_, ?_, ?_, ?_, h.str, h.top⟩, Nat.le_refl _, ?_, ?_, (get v _).2 (.inl ⟨rfl, rfl⟩), hv, Int.le_refl _, .inl rfl, fun x hx => by simp at hx, [], rfl, fun y hy => by simp at hy⟩
  · simpa using h.len
  · simp only
    omega
  · have := h.few
    simp only [List.length_append, List.length_singleton]
    omega
  · intro k x hx
    rcases (get k x).1 hx with ⟨_, h2⟩ | ⟨_, h2⟩
    · simp only
      omega
    · have := h.rng k x h2
      simp only
      omega
  · intro x hx
    simp only [List.mem_append, List.mem_singleton] at hx
    rcases hx with h1 | h1
    · obtain ⟨k, y, h2, h3, h4, h5⟩ := h.opn x h1
      refine ⟨k, y, h2, (get k y).2 (.inr ⟨?_, h3⟩), h4, by simp only; omega⟩
      rintro rfl
      exact hvo (h2 ▸ h1)
    · exact ⟨v, (S.met : Int) + 1, h1, (get v _).2 (.inl ⟨rfl, rfl⟩), by omega, by simp⟩
  · intro k y hy h1 h2
    rcases (get k y).1 hy with ⟨h3, _⟩ | ⟨h3, h4⟩
    · simp [h3]
    · have := h.rng k y h4
      have h5 := h.opn' k y h4 h1 (by simp only at h2; omega)
      simp [h5]
  · rw [List.nodup_append]
    refine ⟨h.nd, by simp, fun a ha b hb => ?_⟩
    rw [List.mem_singleton] at hb
    rintro rfl
    exact hvo (hb ▸ ha)
  · intro k
    exact (h41 k).trans (h.fnd k)
  · intro a b ha hab
    exact (h41 b).2 (h.clo a b ((h41 a).1 ha) hab)
  · intro k y hy h0
    refine (get k y).2 (.inr ⟨?_, hy⟩)
    rintro rfl
    rw [hv] at hy
    exact h0 (Option.some.inj hy).symm
  · intro k y hy h0 hk
    rcases (get k y).1 hy with ⟨h3, h4⟩ | ⟨h3, h4⟩
    · subst h3
      exact ⟨by omega, Rch.self cs k⟩
    · rw [h4] at hk
      exact absurd (Option.some.inj hk) h0

theorem TwIn.skip {cs : List Cl} {S S' : Tw} {v : Nat} {R : List Int} {n : Int} (h : TwIn cs S v R n S') : TwIn cs S v (R ++ [-1]) n S' :=
  have key : ∀ x : Nat, (x : Int) ∈ R ++ [-1] → Seen S S' n x := fun x hx => by
    rw [List.mem_append, List.mem_singleton] at hx
    rcases hx with h1 | h1
    · exact h.done x h1
    · omega
  { h with done := key }
theorem Vis.keep {S S' : Tw} {x : Nat} (h : Vis S x) (hk : ∀ (k : Nat) (y : Int), S.t[k]? = some y → y ≠ 0 → S'.t[k]? = some y) : Vis S' x := by
  obtain ⟨y, h1, h2⟩ := h
  exact ⟨y, hk x y h1 h2, h2⟩
/-- one reference more is visited -/
theorem TwIn.step {cs : List Cl} {S S1 S2 : Tw} {v c : Nat} {R : List Int} {n m : Int} (h : TwIn cs S v R n S1) (p : TwPost cs S1 c m S2) (he : Edge cs v c) : TwIn cs S v (R ++ [(c : Int)]) (min n m) S2 := by
  obtain ⟨tl1, ho1, ht1⟩ := h.opn
  obtain ⟨tl2, ho2, ht2⟩ := p.opn
  have old : ∀ (x : Nat) (q : Int), (x : Int) ∈ S.o → S.t[x]? = some q → (x : Int) ∈ S1.o ∧ S1.t[x]? = some q := by
    intro x q hx hq
    refine ⟨by rw [ho1]; simp [hx], h.keep x q hq ?_⟩
    obtain ⟨k, y, h1, h2, h3, _⟩ := h.pre.opn _ hx
    obtain rfl : x = k := by omega
    rw [hq] at h2
    have := Option.some.inj h2
    omega
  refine ⟨h.pre, p.ok, Nat.le_trans h.met p.met, fun k y h1 h2 => p.keep k y (h.keep k y h1 h2) h2, ?_, p.keep _ _ h.tv (by omega), h.t0, by have := h.lev; omega, ?_, ?_, tl1 ++ tl2, ?_, ?_⟩
  · intro k y h1 h2 h3
    by_cases hk : Vis S1 k
    · obtain ⟨z, h4, h5⟩ := hk
      have h6 := p.keep k z h4 h5
      rw [h1] at h6
      have h7 := Option.some.inj h6
      subst h7
      exact h.late k y h4 h5 h3
    · have h4 : S1.t[k]? = some 0 := by
        have hl := (List.getElem?_eq_some_iff.1 h3).1
        rw [h.pre.len, ← h.ok.len] at hl
        rw [List.getElem?_eq_getElem hl]
        by_cases q : S1.t[k] = 0
        · rw [q]
        · exact absurd ⟨S1.t[k], List.getElem?_eq_getElem hl, q⟩ hk
      obtain ⟨h5, h6⟩ := p.late k y h1 h2 h4
      have := h.met
      exact ⟨by omega, Rch.then he.rch h6⟩
  · rcases Int.le_total n m with hnm | hnm
    · rw [show min n m = n by omega]
      exact h.rch
    · rw [show min n m = m by omega]
      have hlev := h.lev
      have hmet := h.met
      rcases p.rch with h1 | ⟨z, h1, h2, h3⟩
      · left; omega
      · by_cases hm : m = (S.met : Int) + 1
        · exact .inl hm
        · right
          refine ⟨z, ?_, h2, Rch.then he.rch h3⟩
          have hl := (List.getElem?_eq_some_iff.1 h1).1
          rw [h.ok.len, ← h.pre.len] at hl
          rw [List.getElem?_eq_getElem hl]
          by_cases q : S.t[z] = 0
          · have := (h.late z m h1 (by omega) (by rw [List.getElem?_eq_getElem hl, q])).1
            omega
          · have := h.keep z _ (List.getElem?_eq_getElem hl) q
            rw [h1] at this
            exact this.symm
  · intro x hx
    rw [List.mem_append, List.mem_singleton] at hx
    rcases hx with h1 | h1
    · obtain ⟨h2, h3⟩ := h.done x h1
      exact ⟨h2.keep p.keep, fun h4 q hq => by have := h3 h4 q hq; omega⟩
    · obtain rfl : x = c := by omega
      refine ⟨p.vis, fun h4 q hq => ?_⟩
      have h5 := (old x q h4 hq).2
      have := p.self q h5 (by
        obtain ⟨k, y, e1, e2, e3, _⟩ := h.pre.opn _ h4
        obtain rfl : x = k := by omega
        rw [hq] at e2
        have := Option.some.inj e2
        omega)
      omega
  · rw [ho2, ho1, List.append_assoc, List.cons_append]
  · intro y hy
    rw [List.mem_append] at hy
    rcases hy with h1 | h1
    · obtain ⟨h2, h3⟩ := ht1 y h1
      refine ⟨fun x hx => ?_, h3⟩
      obtain ⟨h4, h5⟩ := h2 x hx
      exact ⟨h4.keep p.keep, fun h6 q hq => by have := h5 h6 q hq; omega⟩
    · obtain ⟨h2, x, h3, h4⟩ := ht2 y h1
      refine ⟨fun x hx => ?_, ?_⟩
      · obtain ⟨h5, h6⟩ := h2 x hx
        exact ⟨h5, fun h7 q hq => by have := h6 (old x q h7 hq).1 q (old x q h7 hq).2; omega⟩
      · rw [ho1, List.mem_append, List.mem_cons] at h3
        rcases h3 with h3 | h3 | h3
        · exact ⟨x, .inl h3, h4⟩
        · exact ⟨x, .inr (by omega), h4⟩
        · obtain ⟨_, z, h5, h6⟩ := ht1 x h3
          exact ⟨z, h5, Rch.then h4 h6⟩
theorem TwPost.in_o {cs : List Cl} {S : Tw} (h : TwOk cs S) {z : Nat} {n : Int} (h1 : S.t[z]? = some n) (h2 : 1 ≤ n) (h3 : n ≤ S.met) : (z : Int) ∈ S.o := h.opn' z n h1 h2 h3

/-- a way leads back before the cell: it waits -/
theorem TwIn.out {cs : List Cl} {S S' : Tw} {v : Nat} {c : Cl} {n : Int} (h : TwIn cs S v c.r n S') (hc : cs[v]? = some c) (hn : n ≠ (S.met : Int) + 1) : TwPost cs S v n S' := by
  obtain ⟨tl, ho, ht⟩ := h.opn
  have hlev := h.lev
  obtain ⟨z, z1, z2, z3⟩ := h.rch.resolve_left hn
  have hz := h.pre.opn' z n z1 z2 (by omega)
  refine ⟨h.ok, by have := h.met; omega, h.keep, h.late, ⟨_, h.tv, by omega⟩, fun y hy h0 => ?_, .inr ⟨z, z1, z2, z3⟩, (v : Int) :: tl, ho, fun y hy => ?_⟩
  · rw [h.t0] at hy
    exact absurd (Option.some.inj hy).symm h0
  · rw [List.mem_cons] at hy
    rcases hy with h1 | h1
    · obtain rfl : y = v := by omega
      refine ⟨fun x hx => ?_, z, hz, z3⟩
      obtain ⟨c', h2, h3⟩ := hx
      rw [hc] at h2
      have := Option.some.inj h2
      subst this
      exact h.done x h3
    · obtain ⟨h2, x, h3, h4⟩ := ht y h1
      refine ⟨h2, ?_⟩
      rcases h3 with h3 | h3
      · exact ⟨x, h3, h4⟩
      · subst h3
        exact ⟨z, hz, Rch.then h4 z3⟩

/-- times of cells whose component is found, and the component as a word of bits -/
def shutT (t : List Int) (l : List Int) : List Int := l.foldl (fun t x => t.set x.toNat 41) t
def shutW (V : Nat) (l : List Int) : Nat := l.foldl (fun w x => w ||| 2 ^ x.toNat) V
theorem shutT_snoc (t l : List Int) (x : Int) : shutT t (l ++ [x]) = (shutT t l).set x.toNat 41 := by simp [shutT, List.foldl_append]
theorem shutW_snoc (V : Nat) (l : List Int) (x : Int) : shutW V (l ++ [x]) = shutW V l ||| 2 ^ x.toNat := by simp [shutW, List.foldl_append]
theorem shutT_len (l : List Int) : ∀ t : List Int, (shutT t l).length = t.length := by
  induction l with
  | nil => intro t; rfl
  | cons x l ih =>
    intro t
    show (shutT (t.set x.toNat 41) l).length = _
    rw [ih, List.length_set]
theorem shutT_at (l : List Int) : ∀ (t : List Int), (∀ x ∈ l, 0 ≤ x) → ∀ k : Nat, (shutT t l)[k]? = if (k : Int) ∈ l then t[k]?.map (fun _ => 41) else t[k]? := by
  induction l with
  | nil => intro t _ k; simp [shutT]
  | cons x l ih =>
    intro t hx k
    show (shutT (t.set x.toNat 41) l)[k]? = _
    rw [ih _ (fun y hy => hx y (by simp [hy])) k, List.getElem?_set]
    have h0 := hx x (by simp)
    by_cases e : x.toNat = k
    · have e2 : (k : Int) = x := by omega
      rw [if_pos e, e]
      by_cases q : k < t.length
      · simp [e2, q]
      · simp [e2, q]
    · have e2 : ¬ (k : Int) = x := by omega
      rw [if_neg e]
      simp [e2]
theorem shutW_at (l : List Int) : ∀ (V : Nat), (∀ x ∈ l, 0 ≤ x) → ∀ k : Nat, (shutW V l).testBit k = (V.testBit k || decide ((k : Int) ∈ l)) := by
  induction l with
  | nil => intro V _ k; simp [shutW]
  | cons x l ih =>
    intro V hx k
    show (shutW (V ||| 2 ^ x.toNat) l).testBit k = _
    rw [ih _ (fun y hy => hx y (by simp [hy])) k, Nat.testBit_or, Nat.testBit_two_pow]
    have h0 := hx x (by simp)
    by_cases e : x.toNat = k
    · have e2 : (k : Int) = x := by omega
      simp [e, e2]
    · have e2 : ¬ (k : Int) = x := by omega
      simp [e, e2]

theorem count_shut (l : List Int) : ∀ (t : List Int), (∀ x ∈ l, ∃ y : Int, t[x.toNat]? = some y ∧ y ≠ 0) → (shutT t l).count 0 = t.count 0 := by
  induction l with
  | nil => intro t _; rfl
  | cons x l ih =>
    intro t hx
    show (shutT (t.set x.toNat 41) l).count 0 = _
    obtain ⟨y, h1, h2⟩ := hx x (by simp)
    have key : ∀ (t : List Int) (k : Nat) (y : Int), t[k]? = some y → y ≠ 0 → (t.set k 41).count 0 = t.count 0 := by
      intro t
      induction t with
      | nil => intro k y h1; simp at h1
      | cons a t ih =>
        intro k y h1 h2
        cases k with
        | zero =>
          have : a = y := by simpa using h1
          subst this
          simp [h2]
        | succ k =>
          have := ih k y (by simpa using h1) h2
          simp only [List.set_cons_succ, List.count_cons]
          omega
    rw [ih _ fun z hz => ?_, key t _ y h1 h2]
    obtain ⟨q, h3, h4⟩ := hx z (by simp [hz])
    rw [List.getElem?_set]
    by_cases e : x.toNat = z.toNat
    · rw [if_pos e, if_pos (by rw [e]; exact (List.getElem?_eq_some_iff.1 h3).1)]
      exact ⟨41, rfl, by omega⟩
    · rw [if_neg e]
      exact ⟨q, h3, h4⟩

/-- no way leads back before the cell: its component is found -/
theorem TwIn.shut {cs : List Cl} {S S' : Tw} {v : Nat} {c : Cl} (h : TwIn cs S v c.r ((S.met : Int) + 1) S') (hc : cs[v]? = some c) {tl : List Int} (ho : S'.o = S.o ++ (v : Int) :: tl) :
    TwPost cs S v ((S.met : Int) + 1) ⟨S'.met, shutT S'.t ((v : Int) :: tl), S.o, S'.f ++ [shutW 0 ((v : Int) :: tl)]⟩ := by
  obtain ⟨tl', ho', ht⟩ := h.opn
  have e := List.append_cancel_left (ho'.symm.trans ho)
  injection e with _ e
  subst e
  clear ho'
  have hml := h.ok.met_le
  have hmet := h.met
  -- those that are put into the component
  have hpos : ∀ x ∈ (v : Int) :: tl', ∃ (k : Nat) (y : Int), x = k ∧ S'.t[k]? = some y ∧ 1 ≤ y ∧ y ≤ S'.met ∧ x ∉ S.o := by
    intro x hx
    obtain ⟨k, y, h1, h2, h3, h4⟩ := h.ok.opn x (by rw [ho, List.mem_append]; exact .inr hx)
    refine ⟨k, y, h1, h2, h3, h4, fun q => ?_⟩
    have hn := h.ok.nd
    rw [ho, List.nodup_append] at hn
    exact hn.2.2 x q x hx rfl
  have hnn : ∀ x ∈ (v : Int) :: tl', 0 ≤ x := fun x hx => by
    obtain ⟨k, _, h1, _⟩ := hpos x hx
    omega
  have hT : ∀ k : Nat, (shutT S'.t ((v : Int) :: tl'))[k]? = if (k : Int) ∈ (v : Int) :: tl' then S'.t[k]?.map (fun _ => 41) else S'.t[k]? := shutT_at _ _ hnn
  have hW : ∀ k : Nat, (shutW 0 ((v : Int) :: tl')).testBit k = true ↔ (k : Int) ∈ (v : Int) :: tl' := fun k => by rw [shutW_at _ _ hnn]; simp
  have hin : ∀ k : Nat, (k : Int) ∈ (v : Int) :: tl' → (shutT S'.t ((v : Int) :: tl'))[k]? = some 41 := fun k hk => by
    obtain ⟨j, y, h1, h2, _⟩ := hpos _ hk
    obtain rfl : k = j := by omega
    rw [hT, if_pos hk, h2]
    rfl
  have hout : ∀ k : Nat, (k : Int) ∉ (v : Int) :: tl' → (shutT S'.t ((v : Int) :: tl'))[k]? = S'.t[k]? := fun k hk => by rw [hT, if_neg hk]
  have h41 : ∀ k : Nat, (shutT S'.t ((v : Int) :: tl'))[k]? = some 41 ↔ (k : Int) ∈ (v : Int) :: tl' ∨ S'.t[k]? = some 41 := by
    intro k
    by_cases q : (k : Int) ∈ (v : Int) :: tl'
    · exact ⟨fun _ => .inl q, fun _ => hin k q⟩
    · rw [hout k q]
      exact ⟨.inr, fun q2 => q2.resolve_left q⟩
  have hno41 : ∀ k : Nat, (k : Int) ∈ (v : Int) :: tl' → S'.t[k]? ≠ some 41 := fun k hk e => by
    obtain ⟨j, y, h1, h2, h3, h4, _⟩ := hpos _ hk
    obtain rfl : k = j := by omega
    rw [h2] at e
    have := Option.some.inj e
    omega
  -- they were not met before
  have hnew : ∀ k : Nat, (k : Int) ∈ (v : Int) :: tl' → S.t[k]? = some 0 := by
    intro k hk
    obtain ⟨j, y, h1, h2, h3, h4, h5⟩ := hpos _ hk
    obtain rfl : k = j := by omega
    have hl := (List.getElem?_eq_some_iff.1 h2).1
    rw [h.ok.len, ← h.pre.len] at hl
    rw [List.getElem?_eq_getElem hl]
    by_cases q : S.t[k] = 0
    · rw [q]
    · exfalso
      have h6 := h.keep k _ (List.getElem?_eq_getElem hl) q
      rw [h2] at h6
      have h7 := Option.some.inj h6
      have h8 := h.pre.rng k _ (List.getElem?_eq_getElem hl)
      rw [← h7] at h8
      have h9 := h.pre.opn' k y (by rw [List.getElem?_eq_getElem hl, ← h7]) h3 (by omega)
      exact h5 h9
  have hfrom : ∀ k : Nat, (k : Int) ∈ (v : Int) :: tl' → Rch cs [(v : Int)] k := by
    intro k hk
    obtain ⟨j, y, h1, h2, h3, _⟩ := hpos _ hk
    obtain rfl : k = j := by omega
    exact (h.late k y h2 (by omega) (hnew k hk)).2
  -- where their references lead
  have hedge : ∀ a b : Nat, (a : Int) ∈ (v : Int) :: tl' → Edge cs a b → (b : Int) ∈ (v : Int) :: tl' ∨ S'.t[b]? = some 41 := by
    intro a b ha hab
    have hs : Seen S S' ((S.met : Int) + 1) b := by
      rw [List.mem_cons] at ha
      rcases ha with h1 | h1
      · obtain rfl : a = v := by omega
        obtain ⟨c', h2, h3⟩ := hab
        rw [hc] at h2
        have := Option.some.inj h2
        subst this
        exact h.done b h3
      · exact (ht a h1).1 b hab
    obtain ⟨⟨y, h1, h2⟩, h3⟩ := hs
    rcases h.ok.rng b y h1 with ⟨h4, h5 | h5⟩
    · left
      have h6 := h.ok.opn' b y h1 (by omega) h5
      rw [ho, List.mem_append] at h6
      refine h6.resolve_left fun q => ?_
      obtain ⟨k, z, e1, e2, e3, e4⟩ := h.pre.opn _ q
      obtain rfl : b = k := by omega
      have := h3 q z e2
      omega
    · exact .inr (h5 ▸ h1)
  have hreach : ∀ a b : Nat, (a : Int) ∈ (v : Int) :: tl' → Rch cs [(a : Int)] b → (b : Int) ∈ (v : Int) :: tl' ∨ S'.t[b]? = some 41 := by
    intro a b ha hab
    induction hab with
    | root hk =>
      rw [List.mem_singleton] at hk
      left
      rw [hk]
      exact ha
    | @step k m cl _ h1 h2 ih =>
      rcases ih with q | q
      · exact hedge k m q ⟨cl, h1, h2⟩
      · exact .inr (h.ok.clo k m q ⟨cl, h1, h2⟩)
  have hback : ∀ a : Nat, (a : Int) ∈ (v : Int) :: tl' → Rch cs [(a : Int)] v := by
    intro a ha
    have ha' := ha
    rw [List.mem_cons] at ha
    rcases ha with h1 | h1
    · obtain rfl : a = v := by omega
      exact Rch.self cs a
    · obtain ⟨_, x, h2, h3⟩ := ht a h1
      rcases h2 with h2 | h2
      · exfalso
        rcases hreach a x ha' h3 with q | q
        · obtain ⟨_, _, _, _, _, _, q2⟩ := hpos _ q
          exact q2 h2
        · obtain ⟨k, y, e1, e2, e3, e4⟩ := h.pre.opn _ h2
          obtain rfl : x = k := by omega
          have := h.keep x y e2 (by omega)
          rw [q] at this
          have := Option.some.inj this
          omega
      · exact h2 ▸ h3
  refine ⟨⟨?_, ?_, h.ok.le, ?_, ?_, ?_, ?_, h.pre.nd, ?_, ?_, ?_, ?_⟩, by simp only; omega, ?_, ?_, ⟨41, hin v (by simp), by omega⟩, ?_, .inl (by omega), [], by simp, fun y hy => by simp at hy⟩
  · rw [shutT_len]
    exact h.ok.len
  · rw [count_shut _ _ fun x hx => ?_]
    · exact h.ok.cnt
    · obtain ⟨k, y, h1, h2, h3, _⟩ := hpos x hx
      exact ⟨y, by rw [h1]; simpa using h2, by omega⟩
  · have := h.ok.few
    rw [ho] at this
    simp only [List.length_append, List.length_cons, List.length_nil] at this ⊢
    omega
  · intro k x hx
    by_cases q : (k : Int) ∈ (v : Int) :: tl'
    · have := hin k q
      rw [hx] at this
      have := Option.some.inj this
      omega
    · exact h.ok.rng k x (by rw [← hout k q]; exact hx)
  · intro x hx
    obtain ⟨k, y, h1, h2, h3, h4⟩ := h.pre.opn x hx
    refine ⟨k, y, h1, ?_, h3, by simp only; omega⟩
    rw [hout k fun q => by obtain ⟨_, _, _, _, _, _, q2⟩ := hpos _ q; exact q2 (h1 ▸ hx)]
    exact h.keep k y h2 (by omega)
  · intro k y hy h1 h2
    simp only at h2
    by_cases q : (k : Int) ∈ (v : Int) :: tl'
    · have := hin k q
      rw [hy] at this
      have := Option.some.inj this
      omega
    · have h3 := h.ok.opn' k y (by rw [← hout k q]; exact hy) h1 h2
      rw [ho, List.mem_append] at h3
      exact h3.resolve_right q
  · intro k
    rw [h41, h.ok.fnd]
    simp only [List.mem_append, List.mem_singleton]
    constructor
    · rintro (q | ⟨w, q1, q2⟩)
      · exact ⟨_, .inr rfl, (hW k).2 q⟩
      · exact ⟨w, .inl q1, q2⟩
    · rintro ⟨w, q1 | q1, q2⟩
      · exact .inr ⟨w, q1, q2⟩
      · subst q1
        exact .inl ((hW k).1 q2)
  · intro a b ha hab
    rw [h41] at ha ⊢
    rcases ha with q | q
    · exact hedge a b q hab
    · exact .inr (h.ok.clo a b q hab)
  · intro w hw a b ha hb
    simp only [List.mem_append, List.mem_singleton] at hw
    rcases hw with q | q
    · exact h.ok.str w q a b ha hb
    · subst q
      exact Rch.then (hback a ((hW a).1 ha)) (hfrom b ((hW b).1 hb))
  · rw [List.pairwise_append]
    refine ⟨h.ok.top, by simp, fun w hw w' hw' a b ha hab => ?_⟩
    rw [List.mem_singleton] at hw'
    subst hw'
    have h1 := (h.ok.fnd a).2 ⟨w, hw, ha⟩
    have h2 : S'.t[b]? = some 41 := by
      rcases hab with q | q
      · exact q ▸ h1
      · exact h.ok.clo a b h1 q
    cases q : (shutW 0 ((v : Int) :: tl')).testBit b
    · rfl
    · exact absurd h2 (hno41 b ((hW b).1 q))
  · intro k y hy h0
    rw [hout k fun q => ?_]
    · exact h.keep k y hy h0
    · have := hnew k q
      rw [hy] at this
      exact h0 (Option.some.inj this)
  · intro k y hy h0 hk
    by_cases q : (k : Int) ∈ (v : Int) :: tl'
    · have h1 := hin k q
      rw [hy] at h1
      have h1 := Option.some.inj h1
      have := h.pre.met_le
      exact ⟨by omega, hfrom k q⟩
    · exact h.late k y (by rw [← hout k q]; exact hy) h0 hk
  · intro y hy h0
    rw [h.t0] at hy
    exact absurd (Option.some.inj hy).symm h0

/-! the walk from one cell -/
def Tw.zero (n : Nat) : Tw := ⟨0, List.replicate n 0, [], []⟩
theorem TwOk.zero {cs : List Cl} (hl : cs.length ≤ 40) : TwOk cs (.zero cs.length) := by
  have get : ∀ (k : Nat) (x : Int), (List.replicate cs.length (0 : Int))[k]? = some x → x = 0 := fun k x hx => by
    rw [List.getElem?_replicate] at hx
    split at hx
    · exact (Option.some.inj hx).symm
    · cases hx
  refine ⟨by simp [Tw.zero], by simp [Tw.zero], hl, by simp [Tw.zero], fun k x hx => ?_, fun x hx => by simp [Tw.zero] at hx, fun k y hy h1 _ => ?_, by simp [Tw.zero], fun k => ?_, fun a b ha _ => ?_, fun w hw => by simp [Tw.zero] at hw, by simp [Tw.zero]⟩
  · have := get k x hx
    omega
  · have := get k y hy
    omega
  · constructor
    · intro hk
      have := get k _ hk
      omega
    · rintro ⟨w, hw, _⟩
      simp [Tw.zero] at hw
  · have := get a _ ha
    omega
/-- the components of all to which a cell leads: together they are that, each leads to itself, and none leads to one that was found behind it -/
structure Comps (cs : List Cl) (v : Nat) (f : List Nat) : Prop where
  len : f.length ≤ 40
  all : ∀ k : Nat, (∃ w ∈ f, w.testBit k = true) ↔ Rch cs [(v : Int)] k
  str : ∀ w ∈ f, ∀ a b : Nat, w.testBit a = true → w.testBit b = true → Rch cs [(a : Int)] b
  top : f.Pairwise fun w w' => ∀ a b : Nat, w.testBit a = true → (a = b ∨ Edge cs a b) → w'.testBit b = false
theorem TwPost.comps {cs : List Cl} {v : Nat} {n : Int} {S' : Tw} (p : TwPost cs (.zero cs.length) v n S') : Comps cs v S'.f := by
  obtain ⟨tl, ho, ht⟩ := p.opn
  have ho' : S'.o = tl := by rw [ho]; simp [Tw.zero]
  have hnil : S'.o = [] := by
    rw [ho']
    apply List.eq_nil_iff_forall_not_mem.2
    intro x hx
    obtain ⟨k, y, h1, _⟩ := p.ok.opn x (ho' ▸ hx)
    obtain ⟨_, z, h2, _⟩ := ht k (h1 ▸ hx)
    simp [Tw.zero] at h2
  have h41 : ∀ k, Vis S' k → S'.t[k]? = some 41 := by
    rintro k ⟨y, h1, h2⟩
    obtain ⟨h3, h4 | h4⟩ := p.ok.rng k y h1
    · have := p.ok.opn' k y h1 (by omega) h4
      rw [hnil] at this
      simp at this
    · exact h4 ▸ h1
  refine ⟨by have := p.ok.few; have := p.ok.met_le; omega, fun k => ?_, p.ok.str, p.ok.top⟩
  rw [← p.ok.fnd]
  constructor
  · intro hk
    refine (p.late k 41 hk (by omega) ?_).2
    have hl := (List.getElem?_eq_some_iff.1 hk).1
    rw [p.ok.len] at hl
    simp [Tw.zero, hl]
  · intro hr
    refine Rch.inside (S := fun k => S'.t[k]? = some 41) (fun j hj => ?_) (fun a b c ha hc hb => p.ok.clo a b ha ⟨c, hc, hb⟩) hr
    rw [List.mem_singleton] at hj
    obtain rfl : j = v := by omega
    exact h41 j p.vis
theorem Comps.lt {cs : List Cl} {v : Nat} {f : List Nat} (C : Comps cs v f) (hv : ∀ k, Rch cs [(v : Int)] k → k < cs.length) (hl : cs.length ≤ 40) {w : Nat} (hw : w ∈ f) : w < 2 ^ 40 := by
  apply Nat.lt_pow_two_of_testBit
  intro i hi
  cases q : w.testBit i
  · rfl
  · have := hv i ((C.all i).1 ⟨w, hw, q⟩)
    omega
end Hps
end Go.Proofs.YtiojoailjiojjaaDoor
