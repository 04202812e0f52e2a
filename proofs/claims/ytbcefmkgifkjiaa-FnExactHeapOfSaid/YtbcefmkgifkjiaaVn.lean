/- Numbers given to cells while they are met, and views written down on the way, in plain mathematics; the encoder in memory. No conditions. -/
import Derived.Test.YtbcefmkgifkjiaaGv
namespace Go.Proofs.Ytbcefmkgifkjiaa
namespace Hps

/-- the numbers of the first n cells on a list -/
def numsL (l : List Int) (n : Nat) : List Int := (List.range n).map fun (k : Nat) => nameL l (k : Int)
theorem numsL_len (l : List Int) (n : Nat) : (numsL l n).length = n := by simp [numsL]
theorem numsL_nil (n : Nat) : numsL [] n = List.replicate n (-1) := by
  unfold numsL
  rw [List.eq_replicate_iff]
  refine ⟨by simp, fun x hx => ?_⟩
  obtain ⟨k, _, rfl⟩ := List.mem_map.1 hx
  exact nameL_none (by simp)
theorem numsL_at {l : List Int} {n k : Nat} (hk : k < n) : (numsL l n)[k]? = some (nameL l (k : Int)) := by
  unfold numsL
  rw [List.getElem?_map, List.getElem?_range hk]
  rfl
theorem nameL_old {l : List Int} {x : Int} (ys : List Int) (h : x ∈ l) : nameL (l ++ ys) x = nameL l x := by
  rw [nameL, if_pos (by simp [h]), nameL, if_pos h, List.idxOf_append, if_pos h]
theorem nameL_last {l : List Int} {x : Int} (h : x ∉ l) : nameL (l ++ [x]) x = (l.length : Int) := by
  rw [nameL, if_pos (by simp), List.idxOf_append, if_neg h]
  simp
theorem nameL_other {l : List Int} {x y : Int} (h : x ≠ y) : nameL (l ++ [y]) x = nameL l x := by
  by_cases hx : x ∈ l
  · exact nameL_old _ hx
  · rw [nameL_none hx, nameL_none (by simp [hx, h])]
theorem numsL_met {l : List Int} {n k : Nat} (hn : (k : Int) ∉ l) : (numsL l n).set k (l.length : Int) = numsL (l ++ [(k : Int)]) n := by
  apply List.ext_getElem?
  intro i
  rw [List.getElem?_set, numsL_len]
  by_cases hi : i < n
  · rw [numsL_at hi]
    by_cases e : k = i
    · subst e
      rw [if_pos rfl, if_pos hi, numsL_at hi, nameL_last hn]
    · rw [if_neg e, numsL_at hi, nameL_other (by omega)]
  · rw [List.getElem?_eq_none (l := numsL (l ++ [(k : Int)]) n) (by rw [numsL_len]; omega)]
    by_cases e : k = i
    · subst e
      rw [if_pos rfl, if_neg hi]
    · rw [if_neg e, List.getElem?_eq_none (by rw [numsL_len]; omega)]
theorem meet1_none (l : List Int) : meet1 l (-1) = l := by rw [meet1, if_neg (by omega)]
theorem meet1_old {l : List Int} {x : Int} (h : x ∈ l) : meet1 l x = l := by rw [meet1, if_neg (fun e => e.2 h)]
theorem meet1_new {l : List Int} {k : Nat} (h : (k : Int) ∉ l) : meet1 l (k : Int) = l ++ [(k : Int)] := by rw [meet1, if_pos ⟨by omega, h⟩]
theorem InB.neg {cs : List Cl} {l : List Int} (h : InB cs l) : (-1 : Int) ∉ l := fun hm => by
  obtain ⟨k, e, _⟩ := h _ hm
  omega
theorem nameL_prefix {l l' : List Int} (h : l <+: l') {x : Int} (hx : x ∈ l) : nameL l' x = nameL l x := by
  obtain ⟨ys, rfl⟩ := h
  exact nameL_old ys hx
theorem name_meet {cs : List Cl} {l : List Int} {t : Int} (hi : InB cs (meet1 l t)) (ts : List Int) (ht : t = -1 ∨ 0 ≤ t) (hi' : InB cs (meet (meet1 l t) ts)) : nameL (meet (meet1 l t) ts) t = nameL (meet1 l t) t := by
  rcases ht with rfl | ht
  · rw [nameL_none hi.neg, nameL_none hi'.neg]
  · exact nameL_prefix (meet_prefix ts _) (mem_meet1.2 (.inr ⟨ht, rfl⟩))
/-- the numbers that are written down while targets are met -/
def seenL (l : List Int) : List Int → List Int
  | [] => []
  | t :: ts => nameL (meet1 l t) t :: seenL (meet1 l t) ts
theorem seenL_snoc (t : Int) : ∀ (ts l : List Int), seenL l (ts ++ [t]) = seenL l ts ++ [nameL (meet l (ts ++ [t])) t]
  | [], l => rfl
  | u :: ts, l => by
    have := seenL_snoc t ts (meet1 l u)
    simp only [List.cons_append, seenL, this, meet_cons]
theorem seenL_map {cs : List Cl} : ∀ (ts l : List Int), InB cs l → okRefs cs ts = true → seenL l ts = ts.map (nameL (meet l ts))
  | [], l, _, _ => rfl
  | t :: ts, l, hi, ho => by
    have h1 : okRefs cs [t] = true := okRefs_iff.2 fun x hx => okRefs_iff.1 ho x (by rw [List.mem_singleton] at hx; simp [hx])
    have h2 : okRefs cs ts = true := okRefs_iff.2 fun x hx => okRefs_iff.1 ho x (by simp [hx])
    have hi1 : InB cs (meet1 l t) := InB.meet (ns := [t]) hi h1
    have ht : t = -1 ∨ 0 ≤ t := by
      rcases okRef_iff.1 (okRefs_iff.1 ho t (by simp)) with h | ⟨h, _⟩
      · exact .inl h
      · exact .inr h
    rw [seenL, seenL_map ts _ hi1 h2, List.map_cons, meet_cons, name_meet hi1 ts ht (InB.meet hi1 h2)]
theorem seenL_len : ∀ (ts l : List Int), (seenL l ts).length = ts.length
  | [], _ => rfl
  | t :: ts, l => by rw [seenL, List.length_cons, List.length_cons, seenL_len ts]

/-- what is written down when the first k cells of the list are -/
def wroteL (cs : List Cl) (rt l : List Int) (k : Nat) : List Int := rt.map (nameL l) ++ ((l.take k).map fun n => cellV l (cellAt cs n)).flatten
theorem refs_cellAt (cs : List Cl) (n : Int) : (cellAt cs n).r = refsAt cs n := by
  unfold cellAt refsAt
  cases cs[n.toNat]? <;> rfl
theorem names_prefix {cs : List Cl} {l l' : List Int} (hp : l <+: l') (hi : InB cs l') {ts : List Int} (ht : ∀ t ∈ ts, t = -1 ∨ t ∈ l) : ts.map (nameL l') = ts.map (nameL l) := by
  apply List.map_congr_left
  intro t h
  rcases ht t h with rfl | h1
  · rw [nameL_none hi.neg, nameL_none fun e => hi.neg (hp.subset e)]
  · exact nameL_prefix hp h1
theorem wrote_next {cs : List Cl} {rt l : List Int} {k : Nat} (B : Bf cs rt k l) (hc : ∀ c ∈ cs, okRefs cs c.r = true) (hr : okRefs cs rt = true) {n : Int} (hn : l[k]? = some n) :
    wroteL cs rt l k ++ ((cellAt cs n).d :: ((cellAt cs n).r.length : Int) :: seenL l (cellAt cs n).r) = wroteL cs rt (meet l (refsAt cs n)) (k + 1) := by
  have B' := B.next hc hn
  have hp := meet_prefix (refsAt cs n) l
  have hlk := (List.getElem?_eq_some_iff.1 hn).1
  have hs := seenL_map (cs := cs) (cellAt cs n).r l B.inb (by rw [refs_cellAt]; exact refsAt_ok hc n)
  have hsplit : ∀ t : Int, okRef cs t = true → t = -1 ∨ 0 ≤ t := fun t ht => by
    rcases okRef_iff.1 ht with h | ⟨h, _⟩
    · exact .inl h
    · exact .inr h
  have e1 : rt.map (nameL (meet l (refsAt cs n))) = rt.map (nameL l) := names_prefix hp B'.inb fun t ht => by
    rcases hsplit t (okRefs_iff.1 hr t ht) with h | h
    · exact .inl h
    · exact .inr (B.roots t ht h)
  have e2 : ((meet l (refsAt cs n)).take (k + 1)) = l.take k ++ [n] := by
    obtain ⟨ys, e⟩ := hp
    rw [← e, List.take_append_of_le_length (by omega), List.take_add_one, hn]
    rfl
  have e3 : ((l.take k).map fun n => cellV l (cellAt cs n)) = (l.take k).map fun x => cellV (meet l (refsAt cs n)) (cellAt cs x) := by
    apply List.map_congr_left
    intro x hx
    obtain ⟨i, hi⟩ := List.mem_iff_getElem?.1 hx
    rw [List.getElem?_take] at hi
    split at hi
    · next hik =>
      unfold cellV
      rw [names_prefix hp B'.inb (ts := (cellAt cs x).r) fun t ht => by
        rw [refs_cellAt] at ht
        rcases hsplit t (okRefs_iff.1 (refsAt_ok hc x) t ht) with h | h
        · exact .inl h
        · exact .inr (B.done i x hik hi t ht h)]
    · cases hi
  unfold wroteL
  rw [e1, e2, e3, hs, refs_cellAt, List.map_append, List.flatten_append, List.append_assoc]
  simp [cellV, refs_cellAt]
/-- the encoding so far: the first k cells of the list are written down -/
structure Enc (h : Hp) (k : Nat) (l v : List Int) : Prop where
  bf : Bf h.cs h.rt k l
  fuel : bfs h.cs (h.cs.length + 1 - k) k l = orderH h
  view : v = wroteL h.cs h.rt l k
  le : k ≤ l.length
theorem Enc.start {h : Hp} (hv : validH h = true) : Enc h 0 (meet [] h.rt) (seenL [] h.rt) := by
  have hr := (valid_iff.1 hv).2.2.2
  refine ⟨.start hr, by rw [order_valid hv]; rfl, ?_, Nat.zero_le _⟩
  rw [seenL_map (cs := h.cs) h.rt [] (fun n hn => by simp at hn) hr]
  simp [wroteL]
theorem Enc.len {h : Hp} {k : Nat} {l v : List Int} (E : Enc h k l v) : l.length ≤ h.cs.length := E.bf.inb.le E.bf.nodup
theorem Enc.next {h : Hp} (hv : validH h = true) {k : Nat} {l v : List Int} (E : Enc h k l v) {x : Nat} {c : Cl} (hx : l[k]? = some (x : Int)) (hc : h.cs[x]? = some c) :
    Enc h (k + 1) (meet l c.r) (v ++ (c.d :: (c.r.length : Int) :: seenL l c.r)) := by
  have e1 : cellAt h.cs (x : Int) = c := by unfold cellAt; rw [Int.toNat_natCast, hc]; rfl
  have e2 : refsAt h.cs (x : Int) = c.r := by rw [← refs_cellAt, e1]
  have hlk := (List.getElem?_eq_some_iff.1 hx).1
  have hle := E.len
  have hp := (meet_prefix c.r l).length_le
  refine ⟨?_, ?_, ?_, by omega⟩
  · rw [← e2]
    exact E.bf.next (valid_refs hv) hx
  · have := E.fuel
    rw [show h.cs.length + 1 - k = (h.cs.length + 1 - (k + 1)) + 1 by omega, bfs, hx] at this
    simp only [e2] at this
    exact this
  · have := wrote_next E.bf (valid_refs hv) (valid_iff.1 hv).2.2.2 hx
    rw [e1, e2] at this
    rw [E.view, this]
theorem Enc.fin {h : Hp} (hv : validH h = true) {k : Nat} {l v : List Int} (E : Enc h k l v) (hk : l.length ≤ k) : l = orderH h ∧ v = viewH h := by
  have e : l = orderH h := by
    have := E.fuel
    have hle := E.len
    have hlk := E.le
    rw [show h.cs.length + 1 - k = (h.cs.length - k) + 1 by omega, bfs, List.getElem?_eq_none hk] at this
    exact this
  refine ⟨e, ?_⟩
  rw [E.view, view_valid hv, ← e, wroteL, List.take_of_length_le hk]
theorem Enc.small {h : Hp} (hv : validH h = true) {k : Nat} {l v : List Int} (E : Enc h k l v) : v.length ≤ 1000 := by
  obtain ⟨s1, s2, s3⟩ := valid_small hv
  have hl := E.len
  have := flat_small (b := 5) ((l.take k).map fun n => cellV l (cellAt h.cs n)) (fun s hs => by
    obtain ⟨n, _, rfl⟩ := List.mem_map.1 hs
    have : (cellAt h.cs n).r.length ≤ 3 := by
      unfold cellAt
      cases e : h.cs[n.toNat]? with
      | none => simp
      | some c => exact s3 c (List.mem_of_getElem? e)
    simp [cellV]
    omega)
  rw [List.length_map, List.length_take] at this
  rw [E.view, wroteL, List.length_append, List.length_map, s2]
  omega
/-- a cell of the list is there -/
theorem Enc.at_ {h : Hp} {k i : Nat} {l v : List Int} (E : Enc h k l v) (hi : i < l.length) : ∃ x : Nat, l[i]? = some (x : Int) ∧ x < h.cs.length := by
  obtain ⟨x, e, hx⟩ := E.bf.inb _ (List.getElem_mem hi)
  exact ⟨x, by rw [List.getElem?_eq_getElem hi, e], hx⟩
end Hps
end Go.Proofs.Ytbcefmkgifkjiaa
