/- What the claim LLazyTake stands on, part 6 of 6: texts of one seat put together, with what the claim needs of them. No conditions. -/
import Derived.Test.YtakdjiojahlnmaaShAe
namespace Go.Proofs.Ytakdjiojahlnmaa
namespace Hps
/-- the numbers of the first n cells on a list -/
def numsL (l : List Int) (n : Nat) : List Int := (List.range n).map fun (k : Nat) => nameL l (k : Int)
theorem numsL_len (l : List Int) (n : Nat) : (numsL l n).length = n := by simp [numsL]
theorem numsL_nil (n : Nat) : numsL [] n = List.replicate n (-1) := by
  unfold numsL
  rw [List.eq_replicate_iff]
  refine ⟨by simp, fun x hx => ?_⟩
  obtain ⟨k, _, rfl⟩ := List.mem_map.1 hx
  exact nameL_none (by simp)
theorem numsL_at {l : List Int} {n k : Nat} (hk : k < n) : (numsL l n)[k]? = some (nameL l (k : Int)) := by
  unfold numsL
  rw [List.getElem?_map, List.getElem?_range hk]
  rfl
theorem nameL_old {l : List Int} {x : Int} (ys : List Int) (h : x ∈ l) : nameL (l ++ ys) x = nameL l x := by
  rw [nameL, if_pos (by simp [h]), nameL, if_pos h, List.idxOf_append, if_pos h]
theorem nameL_last {l : List Int} {x : Int} (h : x ∉ l) : nameL (l ++ [x]) x = (l.length : Int) := by
  rw [nameL, if_pos (by simp), List.idxOf_append, if_neg h]
  simp
theorem nameL_other {l : List Int} {x y : Int} (h : x ≠ y) : nameL (l ++ [y]) x = nameL l x := by
  by_cases hx : x ∈ l
  · exact nameL_old _ hx
  · rw [nameL_none hx, nameL_none (by simp [hx, h])]
theorem numsL_met {l : List Int} {n k : Nat} (hn : (k : Int) ∉ l) : (numsL l n).set k (l.length : Int) = numsL (l ++ [(k : Int)]) n := by
  apply List.ext_getElem?
  intro i
  rw [List.getElem?_set, numsL_len]
  by_cases hi : i < n
  · rw [numsL_at hi]
    by_cases e : k = i
    · subst e
      rw [if_pos rfl, if_pos hi, numsL_at hi, nameL_last hn]
    · rw [if_neg e, numsL_at hi, nameL_other (by omega)]
  · rw [List.getElem?_eq_none (l := numsL (l ++ [(k : Int)]) n) (by rw [numsL_len]; omega)]
    by_cases e : k = i
    · subst e
      rw [if_pos rfl, if_neg hi]
    · rw [if_neg e, List.getElem?_eq_none (by rw [numsL_len]; omega)]
theorem meet1_none (l : List Int) : meet1 l (-1) = l := by rw [meet1, if_neg (by omega)]
theorem meet1_old {l : List Int} {x : Int} (h : x ∈ l) : meet1 l x = l := by rw [meet1, if_neg (fun e => e.2 h)]
theorem meet1_new {l : List Int} {k : Nat} (h : (k : Int) ∉ l) : meet1 l (k : Int) = l ++ [(k : Int)] := by rw [meet1, if_pos ⟨by omega, h⟩]
theorem InB.neg {cs : List Cl} {l : List Int} (h : InB cs l) : (-1 : Int) ∉ l := fun hm => by
  obtain ⟨k, e, _⟩ := h _ hm
  omega
theorem nameL_prefix {l l' : List Int} (h : l <+: l') {x : Int} (hx : x ∈ l) : nameL l' x = nameL l x := by
  obtain ⟨ys, rfl⟩ := h
  exact nameL_old ys hx
theorem name_meet {cs : List Cl} {l : List Int} {t : Int} (hi : InB cs (meet1 l t)) (ts : List Int) (ht : t = -1 ∨ 0 ≤ t) (hi' : InB cs (meet (meet1 l t) ts)) : nameL (meet (meet1 l t) ts) t = nameL (meet1 l t) t := by
  rcases ht with rfl | ht
  · rw [nameL_none hi.neg, nameL_none hi'.neg]
  · exact nameL_prefix (meet_prefix ts _) (mem_meet1.2 (.inr ⟨ht, rfl⟩))
/-- the numbers that are written down while targets are met -/
def seenL (l : List Int) : List Int → List Int
  | [] => []
  | t :: ts => nameL (meet1 l t) t :: seenL (meet1 l t) ts
theorem seenL_snoc (t : Int) : ∀ (ts l : List Int), seenL l (ts ++ [t]) = seenL l ts ++ [nameL (meet l (ts ++ [t])) t]
  | [], l => rfl
  | u :: ts, l => by
    have := seenL_snoc t ts (meet1 l u)
    simp only [List.cons_append, seenL, this, meet_cons]
theorem seenL_map {cs : List Cl} : ∀ (ts l : List Int), InB cs l → okRefs cs ts = true → seenL l ts = ts.map (nameL (meet l ts))
  | [], l, _, _ => rfl
  | t :: ts, l, hi, ho => by
    have h1 : okRefs cs [t] = true := okRefs_iff.2 fun x hx => okRefs_iff.1 ho x (by rw [List.mem_singleton] at hx; simp [hx])
    have h2 : okRefs cs ts = true := okRefs_iff.2 fun x hx => okRefs_iff.1 ho x (by simp [hx])
    have hi1 : InB cs (meet1 l t) := InB.meet (ns := [t]) hi h1
    have ht : t = -1 ∨ 0 ≤ t := by
      rcases okRef_iff.1 (okRefs_iff.1 ho t (by simp)) with h | ⟨h, _⟩
      · exact .inl h
      · exact .inr h
    rw [seenL, seenL_map ts _ hi1 h2, List.map_cons, meet_cons, name_meet hi1 ts ht (InB.meet hi1 h2)]
theorem seenL_len : ∀ (ts l : List Int), (seenL l ts).length = ts.length
  | [], _ => rfl
  | t :: ts, l => by rw [seenL, List.length_cons, List.length_cons, seenL_len ts]
/-- what is written down when the first k cells of the list are -/
def wroteL (cs : List Cl) (rt l : List Int) (k : Nat) : List Int := rt.map (nameL l) ++ ((l.take k).map fun n => cellV l (cellAt cs n)).flatten
theorem refs_cellAt (cs : List Cl) (n : Int) : (cellAt cs n).r = refsAt cs n := by
  unfold cellAt refsAt
  cases cs[n.toNat]? <;> rfl
theorem names_prefix {cs : List Cl} {l l' : List Int} (hp : l <+: l') (hi : InB cs l') {ts : List Int} (ht : ∀ t ∈ ts, t = -1 ∨ t ∈ l) : ts.map (nameL l') = ts.map (nameL l) := by
  apply List.map_congr_left
  intro t h
  rcases ht t h with rfl | h1
  · rw [nameL_none hi.neg, nameL_none fun e => hi.neg (hp.subset e)]
  · exact nameL_prefix hp h1
theorem wrote_next {cs : List Cl} {rt l : List Int} {k : Nat} (B : Bf cs rt k l) (hc : ∀ c ∈ cs, okRefs cs c.r = true) (hr : okRefs cs rt = true) {n : Int} (hn : l[k]? = some n) :
    wroteL cs rt l k ++ ((cellAt cs n).d :: ((cellAt cs n).r.length : Int) :: seenL l (cellAt cs n).r) = wroteL cs rt (meet l (refsAt cs n)) (k + 1) := by
  have B' := B.next hc hn
  have hp := meet_prefix (refsAt cs n) l
  have hlk := (List.getElem?_eq_some_iff.1 hn).1
  have hs := seenL_map (cs := cs) (cellAt cs n).r l B.inb (by rw [refs_cellAt]; exact refsAt_ok hc n)
  have hsplit : ∀ t : Int, okRef cs t = true → t = -1 ∨ 0 ≤ t := fun t ht => by
    rcases okRef_iff.1 ht with h | ⟨h, _⟩
    · exact .inl h
    · exact .inr h
  have e1 : rt.map (nameL (meet l (refsAt cs n))) = rt.map (nameL l) := names_prefix hp B'.inb fun t ht => by
    rcases hsplit t (okRefs_iff.1 hr t ht) with h | h
    · exact .inl h
    · exact .inr (B.roots t ht h)
  have e2 : ((meet l (refsAt cs n)).take (k + 1)) = l.take k ++ [n] := by
    obtain ⟨ys, e⟩ := hp
    rw [← e, List.take_append_of_le_length (by omega), List.take_add_one, hn]
    rfl
  have e3 : ((l.take k).map fun n => cellV l (cellAt cs n)) = (l.take k).map fun x => cellV (meet l (refsAt cs n)) (cellAt cs x) := by
    apply List.map_congr_left
    intro x hx
    obtain ⟨i, hi⟩ := List.mem_iff_getElem?.1 hx
    rw [List.getElem?_take] at hi
    split at hi
    · next hik =>
      unfold cellV
      rw [names_prefix hp B'.inb (ts := (cellAt cs x).r) fun t ht => by
        rw [refs_cellAt] at ht
        rcases hsplit t (okRefs_iff.1 (refsAt_ok hc x) t ht) with h | h
        · exact .inl h
        · exact .inr (B.done i x hik hi t ht h)]
    · cases hi
  unfold wroteL
  rw [e1, e2, e3, hs, refs_cellAt, List.map_append, List.flatten_append, List.append_assoc]
  simp [cellV, refs_cellAt]
/-- the encoding so far: the first k cells of the list are written down -/
structure Enc (h : Hp) (k : Nat) (l v : List Int) : Prop where
  bf : Bf h.cs h.rt k l
  fuel : bfs h.cs (h.cs.length + 1 - k) k l = orderH h
  view : v = wroteL h.cs h.rt l k
  le : k ≤ l.length
theorem Enc.start {h : Hp} (hv : validH h = true) : Enc h 0 (meet [] h.rt) (seenL [] h.rt) := by
  have hr := (valid_iff.1 hv).2.2.2
  refine ⟨.start hr, by rw [order_valid hv]; rfl, ?_, Nat.zero_le _⟩
  rw [seenL_map (cs := h.cs) h.rt [] (fun n hn => by simp at hn) hr]
  simp [wroteL]
theorem Enc.len {h : Hp} {k : Nat} {l v : List Int} (E : Enc h k l v) : l.length ≤ h.cs.length := E.bf.inb.le E.bf.nodup
theorem Enc.next {h : Hp} (hv : validH h = true) {k : Nat} {l v : List Int} (E : Enc h k l v) {x : Nat} {c : Cl} (hx : l[k]? = some (x : Int)) (hc : h.cs[x]? = some c) :
    Enc h (k + 1) (meet l c.r) (v ++ (c.d :: (c.r.length : Int) :: seenL l c.r)) := by
  have e1 : cellAt h.cs (x : Int) = c := by unfold cellAt; rw [Int.toNat_natCast, hc]; rfl
  have e2 : refsAt h.cs (x : Int) = c.r := by rw [← refs_cellAt, e1]
  have hlk := (List.getElem?_eq_some_iff.1 hx).1
  have hle := E.len
  have hp := (meet_prefix c.r l).length_le
  refine ⟨?_, ?_, ?_, by omega⟩
  · rw [← e2]
    exact E.bf.next (valid_refs hv) hx
  · have := E.fuel
    rw [show h.cs.length + 1 - k = (h.cs.length + 1 - (k + 1)) + 1 by omega, bfs, hx] at this
    simp only [e2] at this
    exact this
  · have := wrote_next E.bf (valid_refs hv) (valid_iff.1 hv).2.2.2 hx
    rw [e1, e2] at this
    rw [E.view, this]
theorem Enc.fin {h : Hp} (hv : validH h = true) {k : Nat} {l v : List Int} (E : Enc h k l v) (hk : l.length ≤ k) : l = orderH h ∧ v = viewH h := by
  have e : l = orderH h := by
    have := E.fuel
    have hle := E.len
    have hlk := E.le
    rw [show h.cs.length + 1 - k = (h.cs.length - k) + 1 by omega, bfs, List.getElem?_eq_none hk] at this
    exact this
  refine ⟨e, ?_⟩
  rw [E.view, view_valid hv, ← e, wroteL, List.take_of_length_le hk]
theorem Enc.small {h : Hp} (hv : validH h = true) {k : Nat} {l v : List Int} (E : Enc h k l v) : v.length ≤ 1000 := by
  obtain ⟨s1, s2, s3⟩ := valid_small hv
  have hl := E.len
  have := flat_small (b := 5) ((l.take k).map fun n => cellV l (cellAt h.cs n)) (fun s hs => by
    obtain ⟨n, _, rfl⟩ := List.mem_map.1 hs
    have : (cellAt h.cs n).r.length ≤ 3 := by
      unfold cellAt
      cases e : h.cs[n.toNat]? with
      | none => simp
      | some c => exact s3 c (List.mem_of_getElem? e)
    simp [cellV]
    omega)
  rw [List.length_map, List.length_take] at this
  rw [E.view, wroteL, List.length_append, List.length_map, s2]
  omega
/-- a cell of the list is there -/
theorem Enc.at_ {h : Hp} {k i : Nat} {l v : List Int} (E : Enc h k l v) (hi : i < l.length) : ∃ x : Nat, l[i]? = some (x : Int) ∧ x < h.cs.length := by
  obtain ⟨x, e, hx⟩ := E.bf.inb _ (List.getElem_mem hi)
  exact ⟨x, by rw [List.getElem?_eq_getElem hi, e], hx⟩
end Hps
end Go.Proofs.Ytakdjiojahlnmaa
namespace Go.Proofs.Ytakdjiojahlnmaa
open Go.RowKit
set_option maxRecDepth 100000
/-- an encoder in a box: the order, the numbers and the view, each a row of its own -/
structure EncX (w0 wr : World) (b : Nat) (ov nv vv : Value) (l ns vs : List Int) : Prop where
  ord : OwnI wr w0.heap.size ov l
  num : OwnI wr w0.heap.size nv ns
  view : OwnI wr w0.heap.size vv vs
  on : ov.ownBlock = none ∨ ov.ownBlock ≠ nv.ownBlock
  ow : ov.ownBlock = none ∨ ov.ownBlock ≠ vv.ownBlock
  nw : nv.ownBlock = none ∨ nv.ownBlock ≠ vv.ownBlock
  box : Rw wr b 89 #[ov, nv, vv]
  low : Below w0.heap.size w0 wr
  lo : w0.heap.size ≤ b
section
variable {w0 wr w1 : World} {b n : Nat} {ov nv vv v9 : Value} {l ns vs xs : List Int}
theorem EncX.up (S : EncX w0 wr b ov nv vv l ns vs) (hb : Below wr.heap.size wr w1) : EncX w0 w1 b ov nv vv l ns vs :=
  ⟨S.ord.below hb (Nat.le_refl _), S.num.below hb (Nat.le_refl _), S.view.below hb (Nat.le_refl _), S.on, S.ow, S.nw, S.box.keep hb S.box.lt, S.low.trans (hb.mono S.low.size), S.lo⟩
theorem EncX.drew (S : EncX w0 wr b ov nv vv l ns vs) : EncX w0 wr.drew b ov nv vv l ns vs := S.up (Below.refl _ _).drew
theorem EncX.cast {l' ns' vs' : List Int} (S : EncX w0 wr b ov nv vv l ns vs) (e1 : l = l') (e2 : ns = ns') (e3 : vs = vs') : EncX w0 wr b ov nv vv l' ns' vs' := by subst e1 e2 e3; exact S
theorem own_box {v : Value} {xs : List Int} {cs : Array Value} {B : Nat} (h : OwnI wr B v xs) (hr : Rw wr b 89 cs) : some b ≠ v.ownBlock := row_type h hr (by decide)
/-- a number is written -/
theorem EncX.set {g c : Nat} (S : EncX w0 wr b ov (.slice (some ⟨g, 0, none⟩) n c) vv l ns vs) (hn : ns.length = n) (k : Nat) (x : Int) : EncX w0 (wr.setCell ⟨g, k, none⟩ (.int .i64 x)) b ov (.slice (some ⟨g, 0, none⟩) n c) vv l (ns.set k x) vs := by
  have hg : wr.grownBy (wr.setCell ⟨g, k, none⟩ (.int .i64 x)) (Value.slice (some ⟨g, 0, none⟩) n c).ownBlock := only_put (World.grownBy.refl _ _) k (.int .i64 x)
  have hlo := (World.ownsRow.lt S.num g rfl).1
  exact ⟨S.ord.far hg S.on, S.num.put' hn x, S.view.far hg (sep_back S.nw), S.on, S.ow, S.nw, Rw.far S.box hg (own_box S.num S.box), S.low.setCell (p := ⟨g, k, none⟩) hlo _, S.lo⟩
/-- the order is appended to, and the box holds the new slice -/
theorem EncX.ordNew (S : EncX w0 wr b ov nv vv l ns vs) (hg : wr.grownBy w1 ov.ownBlock) (o9 : OwnI w1 w0.heap.size v9 (l ++ xs)) (q : v9.ownBlock = ov.ownBlock ∨ v9.ownBlock = some wr.heap.size) :
    EncX w0 (w1.setCell ⟨b, 0, none⟩ v9) b v9 nv vv (l ++ xs) ns vs := by
  have hb := Rw.far S.box hg (own_box S.ord S.box)
  have hp := put_any w1 b 0 v9
  have n1 : OwnI w1 w0.heap.size nv ns := S.num.far hg (sep_back S.on)
  have v1 : OwnI w1 w0.heap.size vv vs := S.view.far hg (sep_back S.ow)
  have sep : ∀ u : Value, (∀ k, u.ownBlock = some k → k < wr.heap.size) → (ov.ownBlock = none ∨ ov.ownBlock ≠ u.ownBlock) → v9.ownBlock = none ∨ v9.ownBlock ≠ u.ownBlock := fun u hu hs => by
    rcases q with e | e
    · rw [e]; exact hs
    · right
      rw [e]
      intro e'
      have := hu _ e'.symm
      omega
  refine ⟨o9.far hp (.inr fun e => own_box o9 hb e.symm), n1.far hp (.inr fun e => own_box n1 hb e.symm), v1.far hp (.inr fun e => own_box v1 hb e.symm), sep nv (fun k hk => (World.ownsRow.lt S.num k hk).2) S.on, sep vv (fun k hk => (World.ownsRow.lt S.view k hk).2) S.ow, S.nw, hb.put 0 v9, ?_, S.lo⟩
  exact (S.low.grown hg S.low.size (fun kk hk => (World.ownsRow.lt S.ord kk hk).1)).setCell (p := ⟨b, 0, none⟩) S.lo _
/-- the view is appended to, and the box holds the new slice -/
theorem EncX.viewNew (S : EncX w0 wr b ov nv vv l ns vs) (hg : wr.grownBy w1 vv.ownBlock) (o9 : OwnI w1 w0.heap.size v9 (vs ++ xs)) (q : v9.ownBlock = vv.ownBlock ∨ v9.ownBlock = some wr.heap.size) :
    EncX w0 (w1.setCell ⟨b, 2, none⟩ v9) b ov nv v9 l ns (vs ++ xs) := by
  have hb := Rw.far S.box hg (own_box S.view S.box)
  have hp := put_any w1 b 2 v9
  have n1 : OwnI w1 w0.heap.size nv ns := S.num.far hg S.nw
  have v1 : OwnI w1 w0.heap.size ov l := S.ord.far hg S.ow
  have sep : ∀ u : Value, (∀ k, u.ownBlock = some k → k < wr.heap.size) → (u.ownBlock = none ∨ u.ownBlock ≠ vv.ownBlock) → u.ownBlock = none ∨ u.ownBlock ≠ v9.ownBlock := fun u hu hs => by
    rcases q with e | e
    · rw [e]; exact hs
    · right
      rw [e]
      intro e'
      have := hu _ e'
      omega
  refine ⟨v1.far hp (.inr fun e => own_box v1 hb e.symm), n1.far hp (.inr fun e => own_box n1 hb e.symm), o9.far hp (.inr fun e => own_box o9 hb e.symm), S.on, sep ov (fun k hk => (World.ownsRow.lt S.ord k hk).2) S.ow, sep nv (fun k hk => (World.ownsRow.lt S.num k hk).2) S.nw, hb.put 2 v9, ?_, S.lo⟩
  exact (S.low.grown hg S.low.size (fun kk hk => (World.ownsRow.lt S.view kk hk).1)).setCell (p := ⟨b, 2, none⟩) S.lo _
end
set_option maxHeartbeats 1000000 in
theorem number_any {w0 wr : World} {b n : Nat} {ov nv vv : Value} {l vs : List Int} {cs : List Cl} (S : EncX w0 wr b ov nv vv l (Hps.numsL l n) vs) (hn : n ≤ 1000) (hc : cs.length = n) (hi : Hps.InB cs l) (hd : l.Nodup) (t : Int) (ht : Hps.okRef cs t = true) :
    Calls Try.prog 105 #[.pointer (some ⟨b, 0, none⟩), .int .i64 t] wr fun e w' => e = .returned (.int .i64 (Hps.nameL (Hps.meet1 l t) t)) ∧ ∃ ov', EncX w0 w' b ov' nv vv (Hps.meet1 l t) (Hps.numsL (Hps.meet1 l t) n) vs := by
  rcases Hps.okRef_iff.1 ht with rfl | ⟨h0, hu⟩
  · have HE := Lib.hid (show Hps.nameL (Hps.meet1 l (-1)) (-1) = -1 by rw [Hps.meet1_none, Hps.nameL_none hi.neg])
    have HM := Lib.hid (Hps.meet1_none l)
    have h11 : ((-1 : Int) == -1) = true := rfl
    clear ht hi hd
    go_enter Try.func105, Try.ntmps105
    go_wp2_with fail
    go_ret
    refine ⟨by rw [HE.out]; rfl, ov, ?_⟩
    rw [HM.out]
    exact S
  · obtain ⟨k, rfl, hk, _⟩ := Hps.okRef_nat ht h0
    rw [hc] at hk
    have hne : ((k : Int) == -1) = false := by rw [beq_eq_false_iff_ne]; omega
    have hlen := Hps.numsL_len l n
    have hkn : (k : Int) < n := by omega
    have hk0 : ¬ ((k : Int) < 0) := by omega
    obtain ⟨gn, dn, rfl, hgn⟩ : ∃ g d, nv = .slice (some ⟨g, 0, none⟩) n d ∧ g < wr.heap.size := by
      obtain ⟨A, d, rfl, hA⟩ := S.num.form
      rw [hlen] at hA ⊢
      obtain ⟨g, rfl, _, h2⟩ := hA (by omega)
      exact ⟨g, d, rfl, h2⟩
    obtain ⟨g', o', x, e', _, hx, c1⟩ := S.num.reads.at_ (k := k) (by omega)
    have e' := Option.some.inj e'
    injection e' with e1 e2
    subst e1 e2
    rw [Nat.zero_add] at c1
    rw [Hps.numsL_at hk] at hx
    obtain rfl := Option.some.inj hx
    have z1 : wr.cell? ⟨b, 1, none⟩ = some (.slice (some ⟨gn, 0, none⟩) n dn) := S.box.cell 1
    by_cases hm : (k : Int) ∈ l
    · have hx1 : (Hps.nameL l (k : Int) == -1) = false := by
        rw [beq_eq_false_iff_ne]
        exact fun e => Hps.nameL_neg e hm
      have HM := Lib.hid (Hps.meet1_old hm)
      obtain ⟨x, hX⟩ : ∃ x, Hps.nameL l (k : Int) = x := ⟨_, rfl⟩
      have HX := Lib.hid hX
      rw [hX] at c1 hx1
      have SS := Lib.hid S
      clear ht hi hd hu h0 hx hm S hX
      go_enter Try.func105, Try.ntmps105
      go_wp2_with fail
      go_ret
      refine ⟨by rw [HM.out, HX.out]; rfl, ov, by rw [HM.out]; exact SS.out⟩
    · rw [Hps.nameL_none hm] at c1
      have h11 : ((-1 : Int) == -1) = true := rfl
      have HM := Lib.hid (Hps.meet1_new hm)
      obtain ⟨q, hq⟩ : ∃ q, l.length = q := ⟨_, rfl⟩
      have hqn : q ≤ n := by rw [← hq, ← hc]; exact hi.le hd
      have HS := Lib.hid (show (Hps.numsL l n).set k (q : Int) = Hps.numsL (l ++ [(k : Int)]) n by rw [← hq]; exact Hps.numsL_met hm)
      have HNA := Lib.hid (show Hps.nameL (l ++ [(k : Int)]) (k : Int) = q by rw [← hq]; exact Hps.nameL_last hm)
      have HQ := Lib.hid hq
      have HLN := Lib.hid hlen
      obtain ⟨A, d, rfl, -⟩ := S.ord.form
      rw [hq] at S
      have z0 : wr.cell? ⟨b, 0, none⟩ = some (.slice A q d) := S.box.cell 0
      have SS := Lib.hid S
      clear ht hi hd hu h0 hx hm S hq hlen
      go_enter Try.func105, Try.ntmps105
      go_upto_region 4 with fail
      go_still_tail 10, (by kernel_rfl)
      change wpList _ _ _ _ _ wr.drew
      have S4 := SS.out.drew
      generalize wr.drew = w4 at S4 ⊢
      have fz : w4.frozen? ⟨gn, k, none⟩ = false := S4.num.frozen HLN.out k
      obtain ⟨xo, cr⟩ : ∃ v, w4.cell? ⟨gn, k, none⟩ = some v := by
        obtain ⟨g', o', x, e', _, _, c1⟩ := S4.num.reads.at_ (k := k) hk
        have e' := Option.some.inj e'
        injection e' with e1 e2
        subst e1 e2
        rw [Nat.zero_add] at c1
        exact ⟨_, c1⟩
      have S5 := (S4.set HLN.out k (q : Int)).cast rfl HS.out rfl
      clear S4 SS z0 z1 c1
      go_upto_region 5 with fail
      generalize w4.setCell ⟨gn, k, none⟩ (.int .i64 (q : Int)) = w5 at S5 ⊢
      have z0 : w5.cell? ⟨b, 0, none⟩ = some (.slice A q d) := S5.box.cell 0
      have hz5 := S5.low.size
      have S6 := S5.up ((Below.refl w5.heap.size w5).alloc (Nat.le_refl _) (.cells #[.int .i64 (k : Int)] 3))
      have o1 := (own_oneI w5 (k : Int) w0.heap.size hz5).reads
      have HQ' := HQ.out
      have hz6 := S6.low.size
      have SS := Lib.hid S5
      clear S5
      have HL9 := Lib.hid (show (l ++ [(k : Int)]).length = q + 1 by rw [List.length_append, HQ']; rfl)
      clear HQ'
      go_upto_region 6 with (at_builtin; refine wpList_appendI rfl (.tmp 30) (.tmp 32) rfl w0.heap.size _ l rfl S6.ord (some ⟨w5.heap.size, 0, none⟩) 1 1 _ [(k : Int)] rfl o1 (by rw [HQ.out]; omega) hz6 ?_; intro v9 w9 o9 g9 s9; have S9 := S6.ordNew g9 o9 s9; have hb9 := Rw.far S6.box g9 (own_box S6.ord S6.box); have y0 : w9.cell? ⟨b, 0, none⟩ = some (.slice A q d) := hb9.cell 0; have yf := hb9.frozen 0; clear hb9; obtain ⟨A9, c9, e9, -⟩ := o9.form; rw [HL9.out] at e9; subst e9)
      generalize w9.setCell ⟨b, 0, none⟩ _ = wx at S9 ⊢
      have x1 : wx.cell? ⟨b, 1, none⟩ = some (.slice (some ⟨gn, 0, none⟩) n dn) := S9.box.cell 1
      obtain ⟨g', o', x, e', _, hx, c1⟩ := S9.num.reads.at_ (k := k) hk
      have e' := Option.some.inj e'
      injection e' with e1 e2
      subst e1 e2
      rw [Nat.zero_add] at c1
      rw [Hps.numsL_at hk, HNA.out] at hx
      obtain rfl := Option.some.inj hx
      have SN := Lib.hid S9
      clear S9 S6 o9 g9 s9 y0 yf o1 hx
      go_wp2_with fail
      go_ret
      refine ⟨by rw [HM.out, HNA.out]; rfl, _, by rw [HM.out]; exact SN.out⟩
end Go.Proofs.Ytakdjiojahlnmaa
namespace Go.Proofs.Ytakdjiojahlnmaa
open Go.RowKit
set_option maxRecDepth 100000
theorem Hps.okRefs_take {cs : List Cl} {rs : List Int} (h : Hps.okRefs cs rs = true) (k : Nat) : Hps.okRefs cs (rs.take k) = true := Hps.okRefs_iff.2 fun x hx => Hps.okRefs_iff.1 h x (List.mem_of_mem_take hx)
/-- what has been done in a region, with all that it waits for -/
def Shut (ps : List (Nat × Nat)) (L : Nat → Bool) : Prop := ∀ p ∈ ps, L p.1 = true → L p.2 = true
theorem Shut.get {ps : List (Nat × Nat)} {L : Nat → Bool} {i j : Nat} (h : Shut ps L) (hp : (i, j) ∈ ps) (hi : L i = true) : L j = true := h _ hp hi
theorem Shut.step {ps : List (Nat × Nat)} {L : Nat → Bool} {i : Nat} (h : Shut ps L) (hd : ∀ p ∈ ps, p.1 = i → L p.2 = true) : Shut ps (upd L i) := by
  intro p hp hi
  by_cases e : p.1 = i
  · exact upd_mono (hd p hp e)
  · exact upd_mono (h p hp (upd_ne hi e))
set_option maxHeartbeats 4000000 in
theorem putTargets_any {w0 w1 : World} {b n : Nat} {ov nv vv : Value} {l vs ts : List Int} {cs : List Cl} (S : EncX w0 w1 b ov nv vv l (Hps.numsL l n) vs) (hn : n ≤ 1000) (hc : cs.length = n) (hi : Hps.InB cs l) (hd : l.Nodup) (A : Option Addr) (m c : Nat) (hs : IS w0 w0.heap.size A m ts) (hm : m ≤ 1000000) (ho : Hps.okRefs cs ts = true) (hv : vs.length ≤ 1000000) :
    Calls Try.prog 88 #[.pointer (some ⟨b, 0, none⟩), .slice A m c] w1 fun e w' => (∃ v, e = .returned v) ∧ ∃ ov' vv', EncX w0 w' b ov' nv vv' (Hps.meet l ts) (Hps.numsL (Hps.meet l ts) n) (vs ++ Hps.seenL l ts) := by
  have HO := Lib.hid ho
  have HI := Lib.hid hi
  have HD := Lib.hid hd
  have HC := Lib.hid hc
  have hlm := hs.1
  clear ho hi hd hc
  go_enter Try.func88, Try.ntmps88
  go_wp2_with fail
  go_loopw [8] (fun i wr => ∃ (k : Nat) (ov vv : Value), k ≤ m ∧ i = .int .i64 k ∧ EncX w0 wr b ov nv vv (Hps.meet l (ts.take k)) (Hps.numsL (Hps.meet l (ts.take k)) n) (vs ++ Hps.seenL l (ts.take k))) (fun i _ => m - (intOf i).toNat)
  case atStart => exact ⟨0, ov, vv, Nat.zero_le _, rfl, by simpa [Hps.meet_nil, Hps.seenL] using S⟩
  case round =>
    clear S
    obtain ⟨k, ov, vv, hk, rfl, S⟩ := hrel
    by_cases hlt : k < m
    · obtain ⟨g, o, t, rfl, hg, hx, d0⟩ := hs.at_ hlt
      have d1 := (S.low.cell (p := ⟨g, o + k, none⟩) hg).trans d0
      have hlt' : (k : Int) < m := by omega
      have HT := Lib.hid (take_snocI hx)
      have hok := Lib.hid (Hps.okRefs_at HO.out hx)
      have hin : Hid (Hps.InB cs (Hps.meet l (ts.take k))) := Lib.hid (HI.out.meet (Hps.okRefs_take HO.out k))
      have hnd : Hid ((Hps.meet l (ts.take k)).Nodup) := Lib.hid (Hps.meet_nodup _ HD.out)
      have hvl : (vs ++ Hps.seenL l (ts.take k)).length ≤ 2000000 := by
        rw [List.length_append, Hps.seenL_len, List.length_take]
        omega
      have HM := Lib.hid (show Hps.meet l (ts.take (k + 1)) = Hps.meet1 (Hps.meet l (ts.take k)) t by rw [HT.out, Hps.meet_snoc])
      have HV := Lib.hid (show vs ++ Hps.seenL l (ts.take (k + 1)) = (vs ++ Hps.seenL l (ts.take k)) ++ [Hps.nameL (Hps.meet1 (Hps.meet l (ts.take k)) t) t] by rw [HT.out, Hps.seenL_snoc, Hps.meet_snoc, List.append_assoc])
      obtain ⟨lk, hlk⟩ : ∃ lk, Hps.meet l (ts.take k) = lk := ⟨_, rfl⟩
      obtain ⟨vk, hvk⟩ : ∃ vk, vs ++ Hps.seenL l (ts.take k) = vk := ⟨_, rfl⟩
      obtain ⟨nm, hnm⟩ : ∃ nm, Hps.nameL (Hps.meet1 lk t) t = nm := ⟨_, rfl⟩
      rw [hlk, hvk] at S
      rw [hlk] at hin hnd HM HV
      rw [hvk] at hvl HV
      rw [hnm] at HV
      have HNM := Lib.hid hnm
      clear hlk hvk hnm hx d0
      obtain ⟨A2, c2, rfl, -⟩ := S.view.form
      obtain ⟨p, hp⟩ : ∃ p, vk.length = p := ⟨_, rfl⟩
      have HP := Lib.hid hp
      rw [hp] at S hvl
      clear hp
      go_upto_region 3 with fail
      have SS := Lib.hid S.drew
      clear S
      refine wp_region_inv (by kernel_rfl) (by kernel_rfl) (fun L ac ww => ∃ t12 t13 t14 t15 t16 t17 t18 t19 t20 t21 t22 t23 t24 t25 : Value, ac = { tmps := #[Value.pointer (some { block := b, off := 0 }), Value.slice (some { block := g, off := o }) m c, undef, undef, undef, Value.int IntKind.i64 t, Value.slice (some { block := g, off := o }) m c, Value.int IntKind.i64 ↑m, Value.int IntKind.i64 ↑k, Value.bool true, Value.pointer (some { block := g, off := o + k }), Value.int IntKind.i64 t, t12, t13, t14, t15, t16, t17, t18, t19, t20, t21, t22, t23, t24, t25, u26], defers := [] } ∧ (L 9 = false → EncX w0 ww b ov nv (.slice A2 p c2) lk (Hps.numsL lk n) vk) ∧ (L 9 = true → L 11 = false → ∃ ov', EncX w0 ww b ov' nv (.slice A2 p c2) (Hps.meet1 lk t) (Hps.numsL (Hps.meet1 lk t) n) vk) ∧ (Shut [(2, 1), (3, 2), (4, 3), (6, 5), (7, 6), (9, 7), (9, 8), (10, 9), (11, 4), (11, 9), (11, 10), (12, 0), (13, 12)] L) ∧ (L 0 = true → t12 = .pointer (some ⟨b, 0, none⟩)) ∧ (L 1 = true → t13 = .pointer (some ⟨b, 0, none⟩)) ∧ (L 2 = true → t14 = .pointer (some ⟨b, 0, none⟩)) ∧ (L 3 = true → t15 = .pointer (some ⟨b, 2, none⟩)) ∧ (L 4 = true → t16 = .slice A2 p c2) ∧ (L 5 = true → t17 = .pointer (some ⟨b, 0, none⟩)) ∧ (L 6 = true → t18 = .pointer (some ⟨b, 0, none⟩)) ∧ (L 7 = true → t19 = .pointer (some ⟨b, 0, none⟩)) ∧ (L 8 = true → t20 = .int .i64 t) ∧ (L 9 = true → t21 = .int .i64 nm) ∧ (L 10 = true → ∃ g10, t22 = .slice (some ⟨g10, 0, none⟩) 1 1 ∧ (L 11 = false → IS ww ww.heap.size (some ⟨g10, 0, none⟩) 1 [nm])) ∧ (L 11 = true → ∃ A9 c9, t23 = .slice A9 (p + 1) c9 ∧ ∃ ov' wp w9, ww = (if L 14 = true then w9.setCell ⟨b, 2, none⟩ t23 else w9) ∧ EncX w0 wp b ov' nv (.slice A2 p c2) (Hps.meet1 lk t) (Hps.numsL (Hps.meet1 lk t) n) vk ∧ wp.grownBy w9 (Value.slice A2 p c2).ownBlock ∧ OwnI w9 w0.heap.size t23 (vk ++ [nm]) ∧ (t23.ownBlock = (Value.slice A2 p c2).ownBlock ∨ t23.ownBlock = some wp.heap.size)) ∧ (L 12 = true → t24 = .pointer (some ⟨b, 0, none⟩)) ∧ (L 13 = true → t25 = .pointer (some ⟨b, 2, none⟩)) ∧ (L 14 = true → ∀ q, q < 14 → L q = true)) ?h0 ?hstep ?hdone
      case h0 => exact ⟨_, _, _, _, _, _, _, _, _, _, _, _, _, _, rfl, fun _ => SS.out, fun h => absurd h Bool.false_ne_true, fun _ _ h => absurd h Bool.false_ne_true, (fun h => absurd h Bool.false_ne_true), (fun h => absurd h Bool.false_ne_true), (fun h => absurd h Bool.false_ne_true), (fun h => absurd h Bool.false_ne_true), (fun h => absurd h Bool.false_ne_true), (fun h => absurd h Bool.false_ne_true), (fun h => absurd h Bool.false_ne_true), (fun h => absurd h Bool.false_ne_true), (fun h => absurd h Bool.false_ne_true), (fun h => absurd h Bool.false_ne_true), (fun h => absurd h Bool.false_ne_true), (fun h => absurd h Bool.false_ne_true), (fun h => absurd h Bool.false_ne_true), (fun h => absurd h Bool.false_ne_true), (fun h => absurd h Bool.false_ne_true)⟩
      case hstep =>
        rintro L ac ww i o ho hL hd ⟨t12, t13, t14, t15, t16, t17, t18, t19, t20, t21, t22, t23, t24, t25, rfl, I0, I1, I2, f0, f1, f2, f3, f4, f5, f6, f7, f8, f9, f10, f11, f12, f13, f14⟩
        have hi : i < 15 := (Array.getElem?_eq_some_iff.1 ho).1
        obtain rfl | rfl | rfl | rfl | rfl | rfl | rfl | rfl | rfl | rfl | rfl | rfl | rfl | rfl | rfl : i = 0 ∨ i = 1 ∨ i = 2 ∨ i = 3 ∨ i = 4 ∨ i = 5 ∨ i = 6 ∨ i = 7 ∨ i = 8 ∨ i = 9 ∨ i = 10 ∨ i = 11 ∨ i = 12 ∨ i = 13 ∨ i = 14 := by omega
        · obtain rfl := Option.some.inj ho
          refine wpOp_step rfl (fun K' hK => ?_)
          go_simp
          refine hK _ _ ?_
          exact ⟨_, _, _, _, _, _, _, _, _, _, _, _, _, _, rfl, (fun h => I0 (by rw [upd_other (by decide)] at h; exact h)), (fun h9 h11 => I1 (upd_ne h9 (by decide)) (by rw [upd_other (by decide)] at h11; exact h11)), (Shut.step I2 (by
            intro p hp e
            simp only [List.mem_cons, List.not_mem_nil, or_false] at hp
            rcases hp with rfl | rfl | rfl | rfl | rfl | rfl | rfl | rfl | rfl | rfl | rfl | rfl | rfl
            · exact absurd e (by decide)
            · exact absurd e (by decide)
            · exact absurd e (by decide)
            · exact absurd e (by decide)
            · exact absurd e (by decide)
            · exact absurd e (by decide)
            · exact absurd e (by decide)
            · exact absurd e (by decide)
            · exact absurd e (by decide)
            · exact absurd e (by decide)
            · exact absurd e (by decide)
            · exact absurd e (by decide)
            · exact absurd e (by decide))), (fun _ => rfl), (kp f1), (kp f2), (kp f3), (kp f4), (kp f5), (kp f6), (kp f7), (kp f8), (kp f9), (fun h => by
            obtain ⟨g10, e10, r10⟩ := f10 (upd_ne h (by decide))
            exact ⟨g10, e10, fun h11 => r10 (by rw [upd_other (by decide)] at h11; exact h11)⟩), (fun h => by
            obtain ⟨A9, c9, e9, ov', wp, w9, e10, r⟩ := f11 (upd_ne h (by decide))
            exact ⟨A9, c9, e9, ov', wp, w9, by rw [upd_other (by decide)]; exact e10, r⟩), (kp f12), (kp f13), (fun h => absurd (f14 (upd_ne h (by decide)) 0 (by decide)) (by rw [hL]; decide))⟩
        · obtain rfl := Option.some.inj ho
          refine wpOp_step rfl (fun K' hK => ?_)
          go_simp
          refine hK _ _ ?_
          exact ⟨_, _, _, _, _, _, _, _, _, _, _, _, _, _, rfl, (fun h => I0 (by rw [upd_other (by decide)] at h; exact h)), (fun h9 h11 => I1 (upd_ne h9 (by decide)) (by rw [upd_other (by decide)] at h11; exact h11)), (Shut.step I2 (by
            intro p hp e
            simp only [List.mem_cons, List.not_mem_nil, or_false] at hp
            rcases hp with rfl | rfl | rfl | rfl | rfl | rfl | rfl | rfl | rfl | rfl | rfl | rfl | rfl
            · exact absurd e (by decide)
            · exact absurd e (by decide)
            · exact absurd e (by decide)
            · exact absurd e (by decide)
            · exact absurd e (by decide)
            · exact absurd e (by decide)
            · exact absurd e (by decide)
            · exact absurd e (by decide)
            · exact absurd e (by decide)
            · exact absurd e (by decide)
            · exact absurd e (by decide)
            · exact absurd e (by decide)
            · exact absurd e (by decide))), (kp f0), (fun _ => rfl), (kp f2), (kp f3), (kp f4), (kp f5), (kp f6), (kp f7), (kp f8), (kp f9), (fun h => by
            obtain ⟨g10, e10, r10⟩ := f10 (upd_ne h (by decide))
            exact ⟨g10, e10, fun h11 => r10 (by rw [upd_other (by decide)] at h11; exact h11)⟩), (fun h => by
            obtain ⟨A9, c9, e9, ov', wp, w9, e10, r⟩ := f11 (upd_ne h (by decide))
            exact ⟨A9, c9, e9, ov', wp, w9, by rw [upd_other (by decide)]; exact e10, r⟩), (kp f12), (kp f13), (fun h => absurd (f14 (upd_ne h (by decide)) 1 (by decide)) (by rw [hL]; decide))⟩
        · obtain rfl := Option.some.inj ho
          have g1 := f1 (hd ⟨1, .data⟩ (by simp) rfl)
          subst g1
          refine wpOp_step rfl (fun K' hK => ?_)
          go_simp
          refine hK _ _ ?_
          exact ⟨_, _, _, _, _, _, _, _, _, _, _, _, _, _, rfl, (fun h => I0 (by rw [upd_other (by decide)] at h; exact h)), (fun h9 h11 => I1 (upd_ne h9 (by decide)) (by rw [upd_other (by decide)] at h11; exact h11)), (Shut.step I2 (by
            intro p hp e
            simp only [List.mem_cons, List.not_mem_nil, or_false] at hp
            rcases hp with rfl | rfl | rfl | rfl | rfl | rfl | rfl | rfl | rfl | rfl | rfl | rfl | rfl
            · exact hd ⟨1, .data⟩ (by simp) rfl
            · exact absurd e (by decide)
            · exact absurd e (by decide)
            · exact absurd e (by decide)
            · exact absurd e (by decide)
            · exact absurd e (by decide)
            · exact absurd e (by decide)
            · exact absurd e (by decide)
            · exact absurd e (by decide)
            · exact absurd e (by decide)
            · exact absurd e (by decide)
            · exact absurd e (by decide)
            · exact absurd e (by decide))), (kp f0), (kp f1), (fun _ => rfl), (kp f3), (kp f4), (kp f5), (kp f6), (kp f7), (kp f8), (kp f9), (fun h => by
            obtain ⟨g10, e10, r10⟩ := f10 (upd_ne h (by decide))
            exact ⟨g10, e10, fun h11 => r10 (by rw [upd_other (by decide)] at h11; exact h11)⟩), (fun h => by
            obtain ⟨A9, c9, e9, ov', wp, w9, e10, r⟩ := f11 (upd_ne h (by decide))
            exact ⟨A9, c9, e9, ov', wp, w9, by rw [upd_other (by decide)]; exact e10, r⟩), (kp f12), (kp f13), (fun h => absurd (f14 (upd_ne h (by decide)) 2 (by decide)) (by rw [hL]; decide))⟩
        · obtain rfl := Option.some.inj ho
          have g2 := f2 (hd ⟨2, .data⟩ (by simp) rfl)
          subst g2
          refine wpOp_step rfl (fun K' hK => ?_)
          go_simp
          refine hK _ _ ?_
          exact ⟨_, _, _, _, _, _, _, _, _, _, _, _, _, _, rfl, (fun h => I0 (by rw [upd_other (by decide)] at h; exact h)), (fun h9 h11 => I1 (upd_ne h9 (by decide)) (by rw [upd_other (by decide)] at h11; exact h11)), (Shut.step I2 (by
            intro p hp e
            simp only [List.mem_cons, List.not_mem_nil, or_false] at hp
            rcases hp with rfl | rfl | rfl | rfl | rfl | rfl | rfl | rfl | rfl | rfl | rfl | rfl | rfl
            · exact absurd e (by decide)
            · exact hd ⟨2, .data⟩ (by simp) rfl
            · exact absurd e (by decide)
            · exact absurd e (by decide)
            · exact absurd e (by decide)
            · exact absurd e (by decide)
            · exact absurd e (by decide)
            · exact absurd e (by decide)
            · exact absurd e (by decide)
            · exact absurd e (by decide)
            · exact absurd e (by decide)
            · exact absurd e (by decide)
            · exact absurd e (by decide))), (kp f0), (kp f1), (kp f2), (fun _ => rfl), (kp f4), (kp f5), (kp f6), (kp f7), (kp f8), (kp f9), (fun h => by
            obtain ⟨g10, e10, r10⟩ := f10 (upd_ne h (by decide))
            exact ⟨g10, e10, fun h11 => r10 (by rw [upd_other (by decide)] at h11; exact h11)⟩), (fun h => by
            obtain ⟨A9, c9, e9, ov', wp, w9, e10, r⟩ := f11 (upd_ne h (by decide))
            exact ⟨A9, c9, e9, ov', wp, w9, by rw [upd_other (by decide)]; exact e10, r⟩), (kp f12), (kp f13), (fun h => absurd (f14 (upd_ne h (by decide)) 3 (by decide)) (by rw [hL]; decide))⟩
        · obtain rfl := Option.some.inj ho
          have g3 := f3 (hd ⟨3, .data⟩ (by simp) rfl)
          subst g3
          have hL11 : L 11 = false := by
            cases e : L 11
            · rfl
            · exact absurd (I2.get (i := 11) (j := 4) (by decide) e) (by rw [hL]; decide)
          have z0 : ww.cell? ⟨b, 2, none⟩ = some (.slice A2 p c2) := by
            cases e : L 9
            · exact (I0 e).box.cell 2
            · obtain ⟨ov', S'⟩ := I1 e hL11
              exact S'.box.cell 2
          refine wpOp_step rfl (fun K' hK => ?_)
          go_simp
          refine hK _ _ ?_
          exact ⟨_, _, _, _, _, _, _, _, _, _, _, _, _, _, rfl, (fun h => I0 (by rw [upd_other (by decide)] at h; exact h)), (fun h9 h11 => I1 (upd_ne h9 (by decide)) (by rw [upd_other (by decide)] at h11; exact h11)), (Shut.step I2 (by
            intro p hp e
            simp only [List.mem_cons, List.not_mem_nil, or_false] at hp
            rcases hp with rfl | rfl | rfl | rfl | rfl | rfl | rfl | rfl | rfl | rfl | rfl | rfl | rfl
            · exact absurd e (by decide)
            · exact absurd e (by decide)
            · exact hd ⟨3, .data⟩ (by simp) rfl
            · exact absurd e (by decide)
            · exact absurd e (by decide)
            · exact absurd e (by decide)
            · exact absurd e (by decide)
            · exact absurd e (by decide)
            · exact absurd e (by decide)
            · exact absurd e (by decide)
            · exact absurd e (by decide)
            · exact absurd e (by decide)
            · exact absurd e (by decide))), (kp f0), (kp f1), (kp f2), (kp f3), (fun _ => rfl), (kp f5), (kp f6), (kp f7), (kp f8), (kp f9), (fun h => by
            obtain ⟨g10, e10, r10⟩ := f10 (upd_ne h (by decide))
            exact ⟨g10, e10, fun h11 => r10 (by rw [upd_other (by decide)] at h11; exact h11)⟩), (fun h => by
            obtain ⟨A9, c9, e9, ov', wp, w9, e10, r⟩ := f11 (upd_ne h (by decide))
            exact ⟨A9, c9, e9, ov', wp, w9, by rw [upd_other (by decide)]; exact e10, r⟩), (kp f12), (kp f13), (fun h => absurd (f14 (upd_ne h (by decide)) 4 (by decide)) (by rw [hL]; decide))⟩
        · obtain rfl := Option.some.inj ho
          refine wpOp_step rfl (fun K' hK => ?_)
          go_simp
          refine hK _ _ ?_
          exact ⟨_, _, _, _, _, _, _, _, _, _, _, _, _, _, rfl, (fun h => I0 (by rw [upd_other (by decide)] at h; exact h)), (fun h9 h11 => I1 (upd_ne h9 (by decide)) (by rw [upd_other (by decide)] at h11; exact h11)), (Shut.step I2 (by
            intro p hp e
            simp only [List.mem_cons, List.not_mem_nil, or_false] at hp
            rcases hp with rfl | rfl | rfl | rfl | rfl | rfl | rfl | rfl | rfl | rfl | rfl | rfl | rfl
            · exact absurd e (by decide)
            · exact absurd e (by decide)
            · exact absurd e (by decide)
            · exact absurd e (by decide)
            · exact absurd e (by decide)
            · exact absurd e (by decide)
            · exact absurd e (by decide)
            · exact absurd e (by decide)
            · exact absurd e (by decide)
            · exact absurd e (by decide)
            · exact absurd e (by decide)
            · exact absurd e (by decide)
            · exact absurd e (by decide))), (kp f0), (kp f1), (kp f2), (kp f3), (kp f4), (fun _ => rfl), (kp f6), (kp f7), (kp f8), (kp f9), (fun h => by
            obtain ⟨g10, e10, r10⟩ := f10 (upd_ne h (by decide))
            exact ⟨g10, e10, fun h11 => r10 (by rw [upd_other (by decide)] at h11; exact h11)⟩), (fun h => by
            obtain ⟨A9, c9, e9, ov', wp, w9, e10, r⟩ := f11 (upd_ne h (by decide))
            exact ⟨A9, c9, e9, ov', wp, w9, by rw [upd_other (by decide)]; exact e10, r⟩), (kp f12), (kp f13), (fun h => absurd (f14 (upd_ne h (by decide)) 5 (by decide)) (by rw [hL]; decide))⟩
        · obtain rfl := Option.some.inj ho
          have g5 := f5 (hd ⟨5, .data⟩ (by simp) rfl)
          subst g5
          refine wpOp_step rfl (fun K' hK => ?_)
          go_simp
          refine hK _ _ ?_
          exact ⟨_, _, _, _, _, _, _, _, _, _, _, _, _, _, rfl, (fun h => I0 (by rw [upd_other (by decide)] at h; exact h)), (fun h9 h11 => I1 (upd_ne h9 (by decide)) (by rw [upd_other (by decide)] at h11; exact h11)), (Shut.step I2 (by
            intro p hp e
            simp only [List.mem_cons, List.not_mem_nil, or_false] at hp
            rcases hp with rfl | rfl | rfl | rfl | rfl | rfl | rfl | rfl | rfl | rfl | rfl | rfl | rfl
            · exact absurd e (by decide)
            · exact absurd e (by decide)
            · exact absurd e (by decide)
            · exact hd ⟨5, .data⟩ (by simp) rfl
            · exact absurd e (by decide)
            · exact absurd e (by decide)
            · exact absurd e (by decide)
            · exact absurd e (by decide)
            · exact absurd e (by decide)
            · exact absurd e (by decide)
            · exact absurd e (by decide)
            · exact absurd e (by decide)
            · exact absurd e (by decide))), (kp f0), (kp f1), (kp f2), (kp f3), (kp f4), (kp f5), (fun _ => rfl), (kp f7), (kp f8), (kp f9), (fun h => by
            obtain ⟨g10, e10, r10⟩ := f10 (upd_ne h (by decide))
            exact ⟨g10, e10, fun h11 => r10 (by rw [upd_other (by decide)] at h11; exact h11)⟩), (fun h => by
            obtain ⟨A9, c9, e9, ov', wp, w9, e10, r⟩ := f11 (upd_ne h (by decide))
            exact ⟨A9, c9, e9, ov', wp, w9, by rw [upd_other (by decide)]; exact e10, r⟩), (kp f12), (kp f13), (fun h => absurd (f14 (upd_ne h (by decide)) 6 (by decide)) (by rw [hL]; decide))⟩
        · obtain rfl := Option.some.inj ho
          have g6 := f6 (hd ⟨6, .data⟩ (by simp) rfl)
          subst g6
          refine wpOp_step rfl (fun K' hK => ?_)
          go_simp
          refine hK _ _ ?_
          exact ⟨_, _, _, _, _, _, _, _, _, _, _, _, _, _, rfl, (fun h => I0 (by rw [upd_other (by decide)] at h; exact h)), (fun h9 h11 => I1 (upd_ne h9 (by decide)) (by rw [upd_other (by decide)] at h11; exact h11)), (Shut.step I2 (by
            intro p hp e
            simp only [List.mem_cons, List.not_mem_nil, or_false] at hp
            rcases hp with rfl | rfl | rfl | rfl | rfl | rfl | rfl | rfl | rfl | rfl | rfl | rfl | rfl
            · exact absurd e (by decide)
            · exact absurd e (by decide)
            · exact absurd e (by decide)
            · exact absurd e (by decide)
            · exact hd ⟨6, .data⟩ (by simp) rfl
            · exact absurd e (by decide)
            · exact absurd e (by decide)
            · exact absurd e (by decide)
            · exact absurd e (by decide)
            · exact absurd e (by decide)
            · exact absurd e (by decide)
            · exact absurd e (by decide)
            · exact absurd e (by decide))), (kp f0), (kp f1), (kp f2), (kp f3), (kp f4), (kp f5), (kp f6), (fun _ => rfl), (kp f8), (kp f9), (fun h => by
            obtain ⟨g10, e10, r10⟩ := f10 (upd_ne h (by decide))
            exact ⟨g10, e10, fun h11 => r10 (by rw [upd_other (by decide)] at h11; exact h11)⟩), (fun h => by
            obtain ⟨A9, c9, e9, ov', wp, w9, e10, r⟩ := f11 (upd_ne h (by decide))
            exact ⟨A9, c9, e9, ov', wp, w9, by rw [upd_other (by decide)]; exact e10, r⟩), (kp f12), (kp f13), (fun h => absurd (f14 (upd_ne h (by decide)) 7 (by decide)) (by rw [hL]; decide))⟩
        · obtain rfl := Option.some.inj ho
          refine wpOp_step rfl (fun K' hK => ?_)
          go_simp
          refine hK _ _ ?_
          exact ⟨_, _, _, _, _, _, _, _, _, _, _, _, _, _, rfl, (fun h => I0 (by rw [upd_other (by decide)] at h; exact h)), (fun h9 h11 => I1 (upd_ne h9 (by decide)) (by rw [upd_other (by decide)] at h11; exact h11)), (Shut.step I2 (by
            intro p hp e
            simp only [List.mem_cons, List.not_mem_nil, or_false] at hp
            rcases hp with rfl | rfl | rfl | rfl | rfl | rfl | rfl | rfl | rfl | rfl | rfl | rfl | rfl
            · exact absurd e (by decide)
            · exact absurd e (by decide)
            · exact absurd e (by decide)
            · exact absurd e (by decide)
            · exact absurd e (by decide)
            · exact absurd e (by decide)
            · exact absurd e (by decide)
            · exact absurd e (by decide)
            · exact absurd e (by decide)
            · exact absurd e (by decide)
            · exact absurd e (by decide)
            · exact absurd e (by decide)
            · exact absurd e (by decide))), (kp f0), (kp f1), (kp f2), (kp f3), (kp f4), (kp f5), (kp f6), (kp f7), (fun _ => rfl), (kp f9), (fun h => by
            obtain ⟨g10, e10, r10⟩ := f10 (upd_ne h (by decide))
            exact ⟨g10, e10, fun h11 => r10 (by rw [upd_other (by decide)] at h11; exact h11)⟩), (fun h => by
            obtain ⟨A9, c9, e9, ov', wp, w9, e10, r⟩ := f11 (upd_ne h (by decide))
            exact ⟨A9, c9, e9, ov', wp, w9, by rw [upd_other (by decide)]; exact e10, r⟩), (kp f12), (kp f13), (fun h => absurd (f14 (upd_ne h (by decide)) 8 (by decide)) (by rw [hL]; decide))⟩
        · obtain rfl := Option.some.inj ho
          have g7 := f7 (hd ⟨7, .data⟩ (by simp) rfl)
          have g8 := f8 (hd ⟨8, .data⟩ (by simp) rfl)
          subst g7
          subst g8
          have S9 := I0 hL
          refine wpOp_step rfl (fun K' hK => ?_)
          go_simp
          refine (number_any S9 hn HC.out hin.out hnd.out t hok.out).mono ?_
          rintro e w' ⟨rfl, ov', S9'⟩
          rw [HNM.out]
          refine hK _ _ ?_
          exact ⟨_, _, _, _, _, _, _, _, _, _, _, _, _, _, rfl, (fun h => absurd h (by rw [upd_self]; decide)), (fun _ _ => ⟨ov', S9'⟩), (Shut.step I2 (by
            intro p hp e
            simp only [List.mem_cons, List.not_mem_nil, or_false] at hp
            rcases hp with rfl | rfl | rfl | rfl | rfl | rfl | rfl | rfl | rfl | rfl | rfl | rfl | rfl
            · exact absurd e (by decide)
            · exact absurd e (by decide)
            · exact absurd e (by decide)
            · exact absurd e (by decide)
            · exact absurd e (by decide)
            · exact hd ⟨7, .data⟩ (by simp) rfl
            · exact hd ⟨8, .data⟩ (by simp) rfl
            · exact absurd e (by decide)
            · exact absurd e (by decide)
            · exact absurd e (by decide)
            · exact absurd e (by decide)
            · exact absurd e (by decide)
            · exact absurd e (by decide))), (kp f0), (kp f1), (kp f2), (kp f3), (kp f4), (kp f5), (kp f6), (kp f7), (kp f8), (fun _ => rfl), (fun h => absurd (I2.get (i := 10) (j := 9) (by decide) (upd_ne h (by decide))) (by rw [hL]; decide)), (fun h => absurd (I2.get (i := 11) (j := 9) (by decide) (upd_ne h (by decide))) (by rw [hL]; decide)), (kp f12), (kp f13), (fun h => absurd (f14 (upd_ne h (by decide)) 9 (by decide)) (by rw [hL]; decide))⟩
        · obtain rfl := Option.some.inj ho
          have g9 := f9 (hd ⟨9, .data⟩ (by simp) rfl)
          subst g9
          have l9 : Hid (L 9 = true) := Lib.hid (hd ⟨9, .data⟩ (by simp) rfl)
          have hL11 : L 11 = false := by
            cases e : L 11
            · rfl
            · exact absurd (I2.get (i := 11) (j := 10) (by decide) e) (by rw [hL]; decide)
          obtain ⟨ov', S'⟩ := I1 l9.out hL11
          have b5 : Below ww.heap.size ww (ww.alloc (.cells #[.int .i64 nm] 3)) := (Below.refl _ _).alloc (Nat.le_refl _) _
          have o1 := (own_oneI ww nm w0.heap.size S'.low.size).reads
          refine wpOp_step rfl (fun K' hK => ?_)
          go_simp
          refine hK _ _ ?_
          exact ⟨_, _, _, _, _, _, _, _, _, _, _, _, _, _, rfl, (fun h => absurd l9.out (by rw [upd_other (by decide)] at h; rw [h]; decide)), (fun _ _ => ⟨ov', S'.up b5⟩), (Shut.step I2 (by
            intro p hp e
            simp only [List.mem_cons, List.not_mem_nil, or_false] at hp
            rcases hp with rfl | rfl | rfl | rfl | rfl | rfl | rfl | rfl | rfl | rfl | rfl | rfl | rfl
            · exact absurd e (by decide)
            · exact absurd e (by decide)
            · exact absurd e (by decide)
            · exact absurd e (by decide)
            · exact absurd e (by decide)
            · exact absurd e (by decide)
            · exact absurd e (by decide)
            · exact hd ⟨9, .data⟩ (by simp) rfl
            · exact absurd e (by decide)
            · exact absurd e (by decide)
            · exact absurd e (by decide)
            · exact absurd e (by decide)
            · exact absurd e (by decide))), (kp f0), (kp f1), (kp f2), (kp f3), (kp f4), (kp f5), (kp f6), (kp f7), (kp f8), (kp f9), (fun _ => ⟨_, rfl, fun _ => o1⟩), (fun h => absurd (I2.get (i := 11) (j := 10) (by decide) (upd_ne h (by decide))) (by rw [hL]; decide)), (kp f12), (kp f13), (fun h => absurd (f14 (upd_ne h (by decide)) 10 (by decide)) (by rw [hL]; decide))⟩
        · obtain rfl := Option.some.inj ho
          have g4 := f4 (hd ⟨4, .data⟩ (by simp) rfl)
          have g10 := f10 (hd ⟨10, .data⟩ (by simp) rfl)
          subst g4
          have l9 : Hid (L 9 = true) := Lib.hid (I2.get (i := 10) (j := 9) (by decide) (hd ⟨10, .data⟩ (by simp) rfl))
          obtain ⟨ov', S'⟩ := I1 l9.out hL
          obtain ⟨g10, e10, r10⟩ := g10
          subst e10
          have o1 := r10 hL
          have hz := S'.low.size
          refine wpOp_step rfl (fun K' hK => ?_)
          refine app_stepI rfl (.tmp 16) (.tmp 22) rfl w0.heap.size _ vk rfl S'.view (some ⟨g10, 0, none⟩) 1 1 _ [nm] rfl o1 (by rw [HP.out]; omega) hz ?_
          intro v' w' o9 g9 s9
          obtain ⟨A9, c9, e9, -⟩ := o9.form
          rw [List.length_append, HP.out] at e9
          subst e9
          refine hK _ _ ?_
          exact ⟨_, _, _, _, _, _, _, _, _, _, _, _, _, _, rfl, (fun h => absurd l9.out (by rw [upd_other (by decide)] at h; rw [h]; decide)), (fun _ h => absurd h (by rw [upd_self]; decide)), (Shut.step I2 (by
            intro p hp e
            simp only [List.mem_cons, List.not_mem_nil, or_false] at hp
            rcases hp with rfl | rfl | rfl | rfl | rfl | rfl | rfl | rfl | rfl | rfl | rfl | rfl | rfl
            · exact absurd e (by decide)
            · exact absurd e (by decide)
            · exact absurd e (by decide)
            · exact absurd e (by decide)
            · exact absurd e (by decide)
            · exact absurd e (by decide)
            · exact absurd e (by decide)
            · exact absurd e (by decide)
            · exact hd ⟨4, .data⟩ (by simp) rfl
            · exact hd ⟨9, .chain⟩ (by simp) rfl
            · exact hd ⟨10, .data⟩ (by simp) rfl
            · exact absurd e (by decide)
            · exact absurd e (by decide))), (kp f0), (kp f1), (kp f2), (kp f3), (kp f4), (kp f5), (kp f6), (kp f7), (kp f8), (kp f9), (fun _ => ⟨g10, rfl, fun h => absurd h (by rw [upd_self]; decide)⟩), (fun _ => ⟨A9, c9, rfl, ov', ww, w', by
            rw [upd_other (by decide)]
            cases e : L 14
            · rw [if_neg (by decide)]
            · exact absurd (f14 e 11 (by decide)) (by rw [hL]; decide), S', g9, o9, s9⟩), (kp f12), (kp f13), (fun h => absurd (f14 (upd_ne h (by decide)) 11 (by decide)) (by rw [hL]; decide))⟩
        · obtain rfl := Option.some.inj ho
          have g0 := f0 (hd ⟨0, .data⟩ (by simp) rfl)
          subst g0
          refine wpOp_step rfl (fun K' hK => ?_)
          go_simp
          refine hK _ _ ?_
          exact ⟨_, _, _, _, _, _, _, _, _, _, _, _, _, _, rfl, (fun h => I0 (by rw [upd_other (by decide)] at h; exact h)), (fun h9 h11 => I1 (upd_ne h9 (by decide)) (by rw [upd_other (by decide)] at h11; exact h11)), (Shut.step I2 (by
            intro p hp e
            simp only [List.mem_cons, List.not_mem_nil, or_false] at hp
            rcases hp with rfl | rfl | rfl | rfl | rfl | rfl | rfl | rfl | rfl | rfl | rfl | rfl | rfl
            · exact absurd e (by decide)
            · exact absurd e (by decide)
            · exact absurd e (by decide)
            · exact absurd e (by decide)
            · exact absurd e (by decide)
            · exact absurd e (by decide)
            · exact absurd e (by decide)
            · exact absurd e (by decide)
            · exact absurd e (by decide)
            · exact absurd e (by decide)
            · exact absurd e (by decide)
            · exact hd ⟨0, .data⟩ (by simp) rfl
            · exact absurd e (by decide))), (kp f0), (kp f1), (kp f2), (kp f3), (kp f4), (kp f5), (kp f6), (kp f7), (kp f8), (kp f9), (fun h => by
            obtain ⟨g10, e10, r10⟩ := f10 (upd_ne h (by decide))
            exact ⟨g10, e10, fun h11 => r10 (by rw [upd_other (by decide)] at h11; exact h11)⟩), (fun h => by
            obtain ⟨A9, c9, e9, ov', wp, w9, e10, r⟩ := f11 (upd_ne h (by decide))
            exact ⟨A9, c9, e9, ov', wp, w9, by rw [upd_other (by decide)]; exact e10, r⟩), (fun _ => rfl), (kp f13), (fun h => absurd (f14 (upd_ne h (by decide)) 12 (by decide)) (by rw [hL]; decide))⟩
        · obtain rfl := Option.some.inj ho
          have g12 := f12 (hd ⟨12, .data⟩ (by simp) rfl)
          subst g12
          refine wpOp_step rfl (fun K' hK => ?_)
          go_simp
          refine hK _ _ ?_
          exact ⟨_, _, _, _, _, _, _, _, _, _, _, _, _, _, rfl, (fun h => I0 (by rw [upd_other (by decide)] at h; exact h)), (fun h9 h11 => I1 (upd_ne h9 (by decide)) (by rw [upd_other (by decide)] at h11; exact h11)), (Shut.step I2 (by
            intro p hp e
            simp only [List.mem_cons, List.not_mem_nil, or_false] at hp
            rcases hp with rfl | rfl | rfl | rfl | rfl | rfl | rfl | rfl | rfl | rfl | rfl | rfl | rfl
            · exact absurd e (by decide)
            · exact absurd e (by decide)
            · exact absurd e (by decide)
            · exact absurd e (by decide)
            · exact absurd e (by decide)
            · exact absurd e (by decide)
            · exact absurd e (by decide)
            · exact absurd e (by decide)
            · exact absurd e (by decide)
            · exact absurd e (by decide)
            · exact absurd e (by decide)
            · exact absurd e (by decide)
            · exact hd ⟨12, .data⟩ (by simp) rfl)), (kp f0), (kp f1), (kp f2), (kp f3), (kp f4), (kp f5), (kp f6), (kp f7), (kp f8), (kp f9), (fun h => by
            obtain ⟨g10, e10, r10⟩ := f10 (upd_ne h (by decide))
            exact ⟨g10, e10, fun h11 => r10 (by rw [upd_other (by decide)] at h11; exact h11)⟩), (fun h => by
            obtain ⟨A9, c9, e9, ov', wp, w9, e10, r⟩ := f11 (upd_ne h (by decide))
            exact ⟨A9, c9, e9, ov', wp, w9, by rw [upd_other (by decide)]; exact e10, r⟩), (kp f12), (fun _ => rfl), (fun h => absurd (f14 (upd_ne h (by decide)) 13 (by decide)) (by rw [hL]; decide))⟩
        · obtain rfl := Option.some.inj ho
          have g11 := f11 (hd ⟨11, .data⟩ (by simp) rfl)
          have g13 := f13 (hd ⟨13, .data⟩ (by simp) rfl)
          subst g13
          have lq : Hid (∀ q, q < 14 → L q = true) := Lib.hid (by
            intro q hq
            obtain rfl | rfl | rfl | rfl | rfl | rfl | rfl | rfl | rfl | rfl | rfl | rfl | rfl | rfl : q = 0 ∨ q = 1 ∨ q = 2 ∨ q = 3 ∨ q = 4 ∨ q = 5 ∨ q = 6 ∨ q = 7 ∨ q = 8 ∨ q = 9 ∨ q = 10 ∨ q = 11 ∨ q = 12 ∨ q = 13 := by omega
            · exact hd ⟨0, .phase⟩ (by simp) rfl
            · exact hd ⟨1, .phase⟩ (by simp) rfl
            · exact hd ⟨2, .phase⟩ (by simp) rfl
            · exact hd ⟨3, .phase⟩ (by simp) rfl
            · exact hd ⟨4, .phase⟩ (by simp) rfl
            · exact hd ⟨5, .phase⟩ (by simp) rfl
            · exact hd ⟨6, .phase⟩ (by simp) rfl
            · exact hd ⟨7, .phase⟩ (by simp) rfl
            · exact hd ⟨8, .phase⟩ (by simp) rfl
            · exact hd ⟨9, .phase⟩ (by simp) rfl
            · exact hd ⟨10, .phase⟩ (by simp) rfl
            · exact hd ⟨11, .phase⟩ (by simp) rfl
            · exact I2.get (i := 13) (j := 12) (by decide) (hd ⟨13, .data⟩ (by simp) rfl)
            · exact hd ⟨13, .data⟩ (by simp) rfl)
          obtain ⟨A9, c9, e9, ov', wp, w9, e10, r1, r2, r3, r4⟩ := g11
          rw [hL, if_neg (by decide)] at e10
          subst e10
          subst e9
          have hb9 := Rw.far r1.box r2 (own_box r1.view r1.box)
          have z0 : ww.cell? ⟨b, 2, none⟩ = some (.slice A2 p c2) := hb9.cell 2
          have zf : ww.frozen? ⟨b, 2, none⟩ = false := hb9.frozen 2
          refine wpOp_step rfl (fun K' hK => ?_)
          go_simp
          refine hK _ _ ?_
          exact ⟨_, _, _, _, _, _, _, _, _, _, _, _, _, _, rfl, (fun h => absurd (lq.out 9 (by decide)) (by rw [upd_other (by decide)] at h; rw [h]; decide)), (fun _ h => absurd (lq.out 11 (by decide)) (by rw [upd_other (by decide)] at h; rw [h]; decide)), (Shut.step I2 (by
            intro p hp e
            simp only [List.mem_cons, List.not_mem_nil, or_false] at hp
            rcases hp with rfl | rfl | rfl | rfl | rfl | rfl | rfl | rfl | rfl | rfl | rfl | rfl | rfl
            · exact absurd e (by decide)
            · exact absurd e (by decide)
            · exact absurd e (by decide)
            · exact absurd e (by decide)
            · exact absurd e (by decide)
            · exact absurd e (by decide)
            · exact absurd e (by decide)
            · exact absurd e (by decide)
            · exact absurd e (by decide)
            · exact absurd e (by decide)
            · exact absurd e (by decide)
            · exact absurd e (by decide)
            · exact absurd e (by decide))), (kp f0), (kp f1), (kp f2), (kp f3), (kp f4), (kp f5), (kp f6), (kp f7), (kp f8), (kp f9), (fun h => by
            obtain ⟨g10, e10, r10⟩ := f10 (upd_ne h (by decide))
            exact ⟨g10, e10, fun h11 => absurd (lq.out 11 (by decide)) (by rw [upd_other (by decide)] at h11; rw [h11]; decide)⟩), (fun _ => ⟨A9, c9, rfl, ov', wp, ww, by rw [upd_self, if_pos rfl], r1, r2, r3, r4⟩), (kp f12), (kp f13), (fun _ q hq => upd_mono (lq.out q hq))⟩
      case hdone =>
        rintro L ac ww hall ⟨t12, t13, t14, t15, t16, t17, t18, t19, t20, t21, t22, t23, t24, t25, rfl, I0, I1, I2, f0, f1, f2, f3, f4, f5, f6, f7, f8, f9, f10, f11, f12, f13, f14⟩
        have e0 := f0 (hall 0 (by decide))
        have e1 := f1 (hall 1 (by decide))
        have e2 := f2 (hall 2 (by decide))
        have e3 := f3 (hall 3 (by decide))
        have e4 := f4 (hall 4 (by decide))
        have e5 := f5 (hall 5 (by decide))
        have e6 := f6 (hall 6 (by decide))
        have e7 := f7 (hall 7 (by decide))
        have e8 := f8 (hall 8 (by decide))
        have e9 := f9 (hall 9 (by decide))
        have e10 := f10 (hall 10 (by decide))
        have e11 := f11 (hall 11 (by decide))
        have e12 := f12 (hall 12 (by decide))
        have e13 := f13 (hall 13 (by decide))
        have e14 := f14 (hall 14 (by decide))
        clear f0 f1 f2 f3 f4 f5 f6 f7 f8 f9 f10 f11 f12 f13 f14
        obtain ⟨A9, c9, rfl, ov', wp, w9, e17, r1, r2, r3, r4⟩ := e11
        rw [hall 14 (by decide), if_pos rfl] at e17
        subst e17
        have SF := r1.viewNew r2 r3 r4
        rw [← HM.out, ← HV.out] at SF
        clear I0 I1 I2 e0 e1 e2 e3 e4 e5 e6 e7 e8 e9 e10 e12 e13 e14 hall r1 r2 r3 r4
        go_wp2_with fail
        go_roundw
        case rel => exact ⟨k + 1, ov', _, by omega, by go_num, SF⟩
        case measure => simp [intOf]; omega
    · obtain rfl : k = m := by omega
      rw [← hlm, List.take_length] at S
      go_wp2_with fail
      go_end0
      exact ⟨⟨_, rfl⟩, _, _, S⟩
set_option maxHeartbeats 4000000 in
theorem putCell_any {w0 w1 : World} {b n : Nat} {ov nv vv : Value} {l vs ts : List Int} {cs : List Cl} (S : EncX w0 w1 b ov nv vv l (Hps.numsL l n) vs) (hn : n ≤ 1000) (hc : cs.length = n) (hi : Hps.InB cs l) (hd : l.Nodup) (u : Bool) (x : Int) (A : Option Addr) (m c : Nat) (hs : IS w0 w0.heap.size A m ts) (hm : m ≤ 1000000) (ho : Hps.okRefs cs ts = true) (hv : vs.length ≤ 900000) :
    Calls Try.prog 89 #[.pointer (some ⟨b, 0, none⟩), .agg #[.bool u, .int .i64 x, .slice A m c]] w1 fun e w' => (∃ v, e = .returned v) ∧ ∃ ov' vv', EncX w0 w' b ov' nv vv' (Hps.meet l ts) (Hps.numsL (Hps.meet l ts) n) (vs ++ (x :: (ts.length : Int) :: Hps.seenL l ts)) := by
  have HO := Lib.hid ho
  have HI := Lib.hid hi
  have HD := Lib.hid hd
  have HC := Lib.hid hc
  have HT := Lib.hid hs.1
  have HE := Lib.hid (show (vs ++ [x, (m : Int)]) ++ Hps.seenL l ts = vs ++ (x :: (ts.length : Int) :: Hps.seenL l ts) by rw [hs.1]; simp)
  have b1 := (Below.refl w1.heap.size w1).alloc (Nat.le_refl _) (.cells #[.bool u, .int .i64 x, .slice A m c] 45)
  have S1 := S.up b1
  have q1 := Rw.new w1 45 #[.bool u, .int .i64 x, .slice A m c]
  obtain ⟨A2, c2, rfl, -⟩ := S1.view.form
  obtain ⟨p, hp⟩ : ∃ p, vs.length = p := ⟨_, rfl⟩
  have HP := Lib.hid hp
  rw [hp] at S1 hv
  clear ho hi hd hc hp b1 S
  go_enter Try.func89, Try.ntmps89
  go_upto_region 1 with fail
  generalize w1.alloc (.cells #[.bool u, .int .i64 x, .slice A m c] 45) = w2 at S1 q1 ⊢
  generalize w1.heap.size = q at q1 ⊢
  have SS := Lib.hid S1.drew
  have QQ := Lib.hid (q1.keep (Below.refl _ w2).drew q1.lt)
  clear S1 q1
  refine wp_region_inv (by kernel_rfl) (by kernel_rfl) (fun L ac ww => ∃ t4 t5 t6 t7 t8 t9 t10 t11 t12 t13 t14 t15 t16 t17 : Value, ac = { tmps := #[Value.pointer (some { block := b, off := 0 }), Value.agg #[Value.bool u, Value.int IntKind.i64 x, Value.slice A m c], undef, Value.pointer (some { block := q, off := 0 }), t4, t5, t6, t7, t8, t9, t10, t11, t12, t13, t14, t15, t16, t17, undef, undef, undef, undef], defers := [] } ∧ (L 11 = false → EncX w0 ww b ov nv (.slice A2 p c2) l (Hps.numsL l n) vs ∧ Rw ww q 45 #[.bool u, .int .i64 x, .slice A m c]) ∧ (Shut [(2, 1), (3, 2), (4, 3), (6, 5), (8, 7), (9, 8), (10, 6), (10, 9), (11, 4), (11, 10), (12, 0), (13, 12)] L) ∧ (L 0 = true → t4 = .pointer (some ⟨b, 0, none⟩)) ∧ (L 1 = true → t5 = .pointer (some ⟨b, 0, none⟩)) ∧ (L 2 = true → t6 = .pointer (some ⟨b, 0, none⟩)) ∧ (L 3 = true → t7 = .pointer (some ⟨b, 2, none⟩)) ∧ (L 4 = true → t8 = .slice A2 p c2) ∧ (L 5 = true → t9 = .pointer (some ⟨q, 1, none⟩)) ∧ (L 6 = true → t10 = .int .i64 x) ∧ (L 7 = true → t11 = .pointer (some ⟨q, 2, none⟩)) ∧ (L 8 = true → t12 = .slice A m c) ∧ (L 9 = true → t13 = .int .i64 m) ∧ (L 10 = true → ∃ g10, t14 = .slice (some ⟨g10, 0, none⟩) 2 2 ∧ (L 11 = false → IS ww ww.heap.size (some ⟨g10, 0, none⟩) 2 [x, (m : Int)])) ∧ (L 11 = true → ∃ A9 c9, t15 = .slice A9 (p + 2) c9 ∧ ∃ wp w9, ww = (if L 14 = true then w9.setCell ⟨b, 2, none⟩ t15 else w9) ∧ EncX w0 wp b ov nv (.slice A2 p c2) l (Hps.numsL l n) vs ∧ Rw wp q 45 #[.bool u, .int .i64 x, .slice A m c] ∧ wp.grownBy w9 (Value.slice A2 p c2).ownBlock ∧ OwnI w9 w0.heap.size t15 (vs ++ [x, (m : Int)]) ∧ (t15.ownBlock = (Value.slice A2 p c2).ownBlock ∨ t15.ownBlock = some wp.heap.size)) ∧ (L 12 = true → t16 = .pointer (some ⟨b, 0, none⟩)) ∧ (L 13 = true → t17 = .pointer (some ⟨b, 2, none⟩)) ∧ (L 14 = true → ∀ q, q < 14 → L q = true)) ?h0 ?hstep ?hdone
  case h0 => exact ⟨_, _, _, _, _, _, _, _, _, _, _, _, _, _, rfl, fun _ => ⟨SS.out, QQ.out⟩, fun _ _ h => absurd h Bool.false_ne_true, (fun h => absurd h Bool.false_ne_true), (fun h => absurd h Bool.false_ne_true), (fun h => absurd h Bool.false_ne_true), (fun h => absurd h Bool.false_ne_true), (fun h => absurd h Bool.false_ne_true), (fun h => absurd h Bool.false_ne_true), (fun h => absurd h Bool.false_ne_true), (fun h => absurd h Bool.false_ne_true), (fun h => absurd h Bool.false_ne_true), (fun h => absurd h Bool.false_ne_true), (fun h => absurd h Bool.false_ne_true), (fun h => absurd h Bool.false_ne_true), (fun h => absurd h Bool.false_ne_true), (fun h => absurd h Bool.false_ne_true), (fun h => absurd h Bool.false_ne_true)⟩
  case hstep =>
    rintro L ac ww i o ho hL hd ⟨t4, t5, t6, t7, t8, t9, t10, t11, t12, t13, t14, t15, t16, t17, rfl, I0, I1, f0, f1, f2, f3, f4, f5, f6, f7, f8, f9, f10, f11, f12, f13, f14⟩
    have hi : i < 15 := (Array.getElem?_eq_some_iff.1 ho).1
    obtain rfl | rfl | rfl | rfl | rfl | rfl | rfl | rfl | rfl | rfl | rfl | rfl | rfl | rfl | rfl : i = 0 ∨ i = 1 ∨ i = 2 ∨ i = 3 ∨ i = 4 ∨ i = 5 ∨ i = 6 ∨ i = 7 ∨ i = 8 ∨ i = 9 ∨ i = 10 ∨ i = 11 ∨ i = 12 ∨ i = 13 ∨ i = 14 := by omega
    · obtain rfl := Option.some.inj ho
      refine wpOp_step rfl (fun K' hK => ?_)
      go_simp
      refine hK _ _ ?_
      exact ⟨_, _, _, _, _, _, _, _, _, _, _, _, _, _, rfl, (fun h => I0 (by rw [upd_other (by decide)] at h; exact h)), (Shut.step I1 (by
        intro p hp e
        simp only [List.mem_cons, List.not_mem_nil, or_false] at hp
        rcases hp with rfl | rfl | rfl | rfl | rfl | rfl | rfl | rfl | rfl | rfl | rfl | rfl
        · exact absurd e (by decide)
        · exact absurd e (by decide)
        · exact absurd e (by decide)
        · exact absurd e (by decide)
        · exact absurd e (by decide)
        · exact absurd e (by decide)
        · exact absurd e (by decide)
        · exact absurd e (by decide)
        · exact absurd e (by decide)
        · exact absurd e (by decide)
        · exact absurd e (by decide)
        · exact absurd e (by decide))), (fun _ => rfl), (kp f1), (kp f2), (kp f3), (kp f4), (kp f5), (kp f6), (kp f7), (kp f8), (kp f9), (fun h => by
        obtain ⟨g10, e10, r10⟩ := f10 (upd_ne h (by decide))
        exact ⟨g10, e10, fun h11 => r10 (by rw [upd_other (by decide)] at h11; exact h11)⟩), (fun h => by
        obtain ⟨A9, c9, e9, wp, w9, e10, r⟩ := f11 (upd_ne h (by decide))
        exact ⟨A9, c9, e9, wp, w9, by rw [upd_other (by decide)]; exact e10, r⟩), (kp f12), (kp f13), (fun h => absurd (f14 (upd_ne h (by decide)) 0 (by decide)) (by rw [hL]; decide))⟩
    · obtain rfl := Option.some.inj ho
      refine wpOp_step rfl (fun K' hK => ?_)
      go_simp
      refine hK _ _ ?_
      exact ⟨_, _, _, _, _, _, _, _, _, _, _, _, _, _, rfl, (fun h => I0 (by rw [upd_other (by decide)] at h; exact h)), (Shut.step I1 (by
        intro p hp e
        simp only [List.mem_cons, List.not_mem_nil, or_false] at hp
        rcases hp with rfl | rfl | rfl | rfl | rfl | rfl | rfl | rfl | rfl | rfl | rfl | rfl
        · exact absurd e (by decide)
        · exact absurd e (by decide)
        · exact absurd e (by decide)
        · exact absurd e (by decide)
        · exact absurd e (by decide)
        · exact absurd e (by decide)
        · exact absurd e (by decide)
        · exact absurd e (by decide)
        · exact absurd e (by decide)
        · exact absurd e (by decide)
        · exact absurd e (by decide)
        · exact absurd e (by decide))), (kp f0), (fun _ => rfl), (kp f2), (kp f3), (kp f4), (kp f5), (kp f6), (kp f7), (kp f8), (kp f9), (fun h => by
        obtain ⟨g10, e10, r10⟩ := f10 (upd_ne h (by decide))
        exact ⟨g10, e10, fun h11 => r10 (by rw [upd_other (by decide)] at h11; exact h11)⟩), (fun h => by
        obtain ⟨A9, c9, e9, wp, w9, e10, r⟩ := f11 (upd_ne h (by decide))
        exact ⟨A9, c9, e9, wp, w9, by rw [upd_other (by decide)]; exact e10, r⟩), (kp f12), (kp f13), (fun h => absurd (f14 (upd_ne h (by decide)) 1 (by decide)) (by rw [hL]; decide))⟩
    · obtain rfl := Option.some.inj ho
      have g1 := f1 (hd ⟨1, .data⟩ (by simp) rfl)
      subst g1
      refine wpOp_step rfl (fun K' hK => ?_)
      go_simp
      refine hK _ _ ?_
      exact ⟨_, _, _, _, _, _, _, _, _, _, _, _, _, _, rfl, (fun h => I0 (by rw [upd_other (by decide)] at h; exact h)), (Shut.step I1 (by
        intro p hp e
        simp only [List.mem_cons, List.not_mem_nil, or_false] at hp
        rcases hp with rfl | rfl | rfl | rfl | rfl | rfl | rfl | rfl | rfl | rfl | rfl | rfl
        · exact hd ⟨1, .data⟩ (by simp) rfl
        · exact absurd e (by decide)
        · exact absurd e (by decide)
        · exact absurd e (by decide)
        · exact absurd e (by decide)
        · exact absurd e (by decide)
        · exact absurd e (by decide)
        · exact absurd e (by decide)
        · exact absurd e (by decide)
        · exact absurd e (by decide)
        · exact absurd e (by decide)
        · exact absurd e (by decide))), (kp f0), (kp f1), (fun _ => rfl), (kp f3), (kp f4), (kp f5), (kp f6), (kp f7), (kp f8), (kp f9), (fun h => by
        obtain ⟨g10, e10, r10⟩ := f10 (upd_ne h (by decide))
        exact ⟨g10, e10, fun h11 => r10 (by rw [upd_other (by decide)] at h11; exact h11)⟩), (fun h => by
        obtain ⟨A9, c9, e9, wp, w9, e10, r⟩ := f11 (upd_ne h (by decide))
        exact ⟨A9, c9, e9, wp, w9, by rw [upd_other (by decide)]; exact e10, r⟩), (kp f12), (kp f13), (fun h => absurd (f14 (upd_ne h (by decide)) 2 (by decide)) (by rw [hL]; decide))⟩
    · obtain rfl := Option.some.inj ho
      have g2 := f2 (hd ⟨2, .data⟩ (by simp) rfl)
      subst g2
      refine wpOp_step rfl (fun K' hK => ?_)
      go_simp
      refine hK _ _ ?_
      exact ⟨_, _, _, _, _, _, _, _, _, _, _, _, _, _, rfl, (fun h => I0 (by rw [upd_other (by decide)] at h; exact h)), (Shut.step I1 (by
        intro p hp e
        simp only [List.mem_cons, List.not_mem_nil, or_false] at hp
        rcases hp with rfl | rfl | rfl | rfl | rfl | rfl | rfl | rfl | rfl | rfl | rfl | rfl
        · exact absurd e (by decide)
        · exact hd ⟨2, .data⟩ (by simp) rfl
        · exact absurd e (by decide)
        · exact absurd e (by decide)
        · exact absurd e (by decide)
        · exact absurd e (by decide)
        · exact absurd e (by decide)
        · exact absurd e (by decide)
        · exact absurd e (by decide)
        · exact absurd e (by decide)
        · exact absurd e (by decide)
        · exact absurd e (by decide))), (kp f0), (kp f1), (kp f2), (fun _ => rfl), (kp f4), (kp f5), (kp f6), (kp f7), (kp f8), (kp f9), (fun h => by
        obtain ⟨g10, e10, r10⟩ := f10 (upd_ne h (by decide))
        exact ⟨g10, e10, fun h11 => r10 (by rw [upd_other (by decide)] at h11; exact h11)⟩), (fun h => by
        obtain ⟨A9, c9, e9, wp, w9, e10, r⟩ := f11 (upd_ne h (by decide))
        exact ⟨A9, c9, e9, wp, w9, by rw [upd_other (by decide)]; exact e10, r⟩), (kp f12), (kp f13), (fun h => absurd (f14 (upd_ne h (by decide)) 3 (by decide)) (by rw [hL]; decide))⟩
    · obtain rfl := Option.some.inj ho
      have g3 := f3 (hd ⟨3, .data⟩ (by simp) rfl)
      subst g3
      have hL11 : L 11 = false := by
        cases e : L 11
        · rfl
        · exact absurd (I1.get (i := 11) (j := 4) (by decide) e) (by rw [hL]; decide)
      have z0 : ww.cell? ⟨b, 2, none⟩ = some (.slice A2 p c2) := (I0 hL11).1.box.cell 2
      refine wpOp_step rfl (fun K' hK => ?_)
      go_simp
      refine hK _ _ ?_
      exact ⟨_, _, _, _, _, _, _, _, _, _, _, _, _, _, rfl, (fun h => I0 (by rw [upd_other (by decide)] at h; exact h)), (Shut.step I1 (by
        intro p hp e
        simp only [List.mem_cons, List.not_mem_nil, or_false] at hp
        rcases hp with rfl | rfl | rfl | rfl | rfl | rfl | rfl | rfl | rfl | rfl | rfl | rfl
        · exact absurd e (by decide)
        · exact absurd e (by decide)
        · exact hd ⟨3, .data⟩ (by simp) rfl
        · exact absurd e (by decide)
        · exact absurd e (by decide)
        · exact absurd e (by decide)
        · exact absurd e (by decide)
        · exact absurd e (by decide)
        · exact absurd e (by decide)
        · exact absurd e (by decide)
        · exact absurd e (by decide)
        · exact absurd e (by decide))), (kp f0), (kp f1), (kp f2), (kp f3), (fun _ => rfl), (kp f5), (kp f6), (kp f7), (kp f8), (kp f9), (fun h => by
        obtain ⟨g10, e10, r10⟩ := f10 (upd_ne h (by decide))
        exact ⟨g10, e10, fun h11 => r10 (by rw [upd_other (by decide)] at h11; exact h11)⟩), (fun h => by
        obtain ⟨A9, c9, e9, wp, w9, e10, r⟩ := f11 (upd_ne h (by decide))
        exact ⟨A9, c9, e9, wp, w9, by rw [upd_other (by decide)]; exact e10, r⟩), (kp f12), (kp f13), (fun h => absurd (f14 (upd_ne h (by decide)) 4 (by decide)) (by rw [hL]; decide))⟩
    · obtain rfl := Option.some.inj ho
      refine wpOp_step rfl (fun K' hK => ?_)
      go_simp
      refine hK _ _ ?_
      exact ⟨_, _, _, _, _, _, _, _, _, _, _, _, _, _, rfl, (fun h => I0 (by rw [upd_other (by decide)] at h; exact h)), (Shut.step I1 (by
        intro p hp e
        simp only [List.mem_cons, List.not_mem_nil, or_false] at hp
        rcases hp with rfl | rfl | rfl | rfl | rfl | rfl | rfl | rfl | rfl | rfl | rfl | rfl
        · exact absurd e (by decide)
        · exact absurd e (by decide)
        · exact absurd e (by decide)
        · exact absurd e (by decide)
        · exact absurd e (by decide)
        · exact absurd e (by decide)
        · exact absurd e (by decide)
        · exact absurd e (by decide)
        · exact absurd e (by decide)
        · exact absurd e (by decide)
        · exact absurd e (by decide)
        · exact absurd e (by decide))), (kp f0), (kp f1), (kp f2), (kp f3), (kp f4), (fun _ => rfl), (kp f6), (kp f7), (kp f8), (kp f9), (fun h => by
        obtain ⟨g10, e10, r10⟩ := f10 (upd_ne h (by decide))
        exact ⟨g10, e10, fun h11 => r10 (by rw [upd_other (by decide)] at h11; exact h11)⟩), (fun h => by
        obtain ⟨A9, c9, e9, wp, w9, e10, r⟩ := f11 (upd_ne h (by decide))
        exact ⟨A9, c9, e9, wp, w9, by rw [upd_other (by decide)]; exact e10, r⟩), (kp f12), (kp f13), (fun h => absurd (f14 (upd_ne h (by decide)) 5 (by decide)) (by rw [hL]; decide))⟩
    · obtain rfl := Option.some.inj ho
      have g5 := f5 (hd ⟨5, .data⟩ (by simp) rfl)
      subst g5
      have hL11 : L 11 = false := by
        cases e : L 11
        · rfl
        · exact absurd (I1.get (i := 10) (j := 6) (by decide) (I1.get (i := 11) (j := 10) (by decide) e)) (by rw [hL]; decide)
      have z0 : ww.cell? ⟨q, 1, none⟩ = some (.int .i64 x) := (I0 hL11).2.cell 1
      refine wpOp_step rfl (fun K' hK => ?_)
      go_simp
      refine hK _ _ ?_
      exact ⟨_, _, _, _, _, _, _, _, _, _, _, _, _, _, rfl, (fun h => I0 (by rw [upd_other (by decide)] at h; exact h)), (Shut.step I1 (by
        intro p hp e
        simp only [List.mem_cons, List.not_mem_nil, or_false] at hp
        rcases hp with rfl | rfl | rfl | rfl | rfl | rfl | rfl | rfl | rfl | rfl | rfl | rfl
        · exact absurd e (by decide)
        · exact absurd e (by decide)
        · exact absurd e (by decide)
        · exact hd ⟨5, .data⟩ (by simp) rfl
        · exact absurd e (by decide)
        · exact absurd e (by decide)
        · exact absurd e (by decide)
        · exact absurd e (by decide)
        · exact absurd e (by decide)
        · exact absurd e (by decide)
        · exact absurd e (by decide)
        · exact absurd e (by decide))), (kp f0), (kp f1), (kp f2), (kp f3), (kp f4), (kp f5), (fun _ => rfl), (kp f7), (kp f8), (kp f9), (fun h => by
        obtain ⟨g10, e10, r10⟩ := f10 (upd_ne h (by decide))
        exact ⟨g10, e10, fun h11 => r10 (by rw [upd_other (by decide)] at h11; exact h11)⟩), (fun h => by
        obtain ⟨A9, c9, e9, wp, w9, e10, r⟩ := f11 (upd_ne h (by decide))
        exact ⟨A9, c9, e9, wp, w9, by rw [upd_other (by decide)]; exact e10, r⟩), (kp f12), (kp f13), (fun h => absurd (f14 (upd_ne h (by decide)) 6 (by decide)) (by rw [hL]; decide))⟩
    · obtain rfl := Option.some.inj ho
      refine wpOp_step rfl (fun K' hK => ?_)
      go_simp
      refine hK _ _ ?_
      exact ⟨_, _, _, _, _, _, _, _, _, _, _, _, _, _, rfl, (fun h => I0 (by rw [upd_other (by decide)] at h; exact h)), (Shut.step I1 (by
        intro p hp e
        simp only [List.mem_cons, List.not_mem_nil, or_false] at hp
        rcases hp with rfl | rfl | rfl | rfl | rfl | rfl | rfl | rfl | rfl | rfl | rfl | rfl
        · exact absurd e (by decide)
        · exact absurd e (by decide)
        · exact absurd e (by decide)
        · exact absurd e (by decide)
        · exact absurd e (by decide)
        · exact absurd e (by decide)
        · exact absurd e (by decide)
        · exact absurd e (by decide)
        · exact absurd e (by decide)
        · exact absurd e (by decide)
        · exact absurd e (by decide)
        · exact absurd e (by decide))), (kp f0), (kp f1), (kp f2), (kp f3), (kp f4), (kp f5), (kp f6), (fun _ => rfl), (kp f8), (kp f9), (fun h => by
        obtain ⟨g10, e10, r10⟩ := f10 (upd_ne h (by decide))
        exact ⟨g10, e10, fun h11 => r10 (by rw [upd_other (by decide)] at h11; exact h11)⟩), (fun h => by
        obtain ⟨A9, c9, e9, wp, w9, e10, r⟩ := f11 (upd_ne h (by decide))
        exact ⟨A9, c9, e9, wp, w9, by rw [upd_other (by decide)]; exact e10, r⟩), (kp f12), (kp f13), (fun h => absurd (f14 (upd_ne h (by decide)) 7 (by decide)) (by rw [hL]; decide))⟩
    · obtain rfl := Option.some.inj ho
      have g7 := f7 (hd ⟨7, .data⟩ (by simp) rfl)
      subst g7
      have hL11 : L 11 = false := by
        cases e : L 11
        · rfl
        · exact absurd (I1.get (i := 9) (j := 8) (by decide) (I1.get (i := 10) (j := 9) (by decide) (I1.get (i := 11) (j := 10) (by decide) e))) (by rw [hL]; decide)
      have z0 : ww.cell? ⟨q, 2, none⟩ = some (.slice A m c) := (I0 hL11).2.cell 2
      refine wpOp_step rfl (fun K' hK => ?_)
      go_simp
      refine hK _ _ ?_
      exact ⟨_, _, _, _, _, _, _, _, _, _, _, _, _, _, rfl, (fun h => I0 (by rw [upd_other (by decide)] at h; exact h)), (Shut.step I1 (by
        intro p hp e
        simp only [List.mem_cons, List.not_mem_nil, or_false] at hp
        rcases hp with rfl | rfl | rfl | rfl | rfl | rfl | rfl | rfl | rfl | rfl | rfl | rfl
        · exact absurd e (by decide)
        · exact absurd e (by decide)
        · exact absurd e (by decide)
        · exact absurd e (by decide)
        · exact hd ⟨7, .data⟩ (by simp) rfl
        · exact absurd e (by decide)
        · exact absurd e (by decide)
        · exact absurd e (by decide)
        · exact absurd e (by decide)
        · exact absurd e (by decide)
        · exact absurd e (by decide)
        · exact absurd e (by decide))), (kp f0), (kp f1), (kp f2), (kp f3), (kp f4), (kp f5), (kp f6), (kp f7), (fun _ => rfl), (kp f9), (fun h => by
        obtain ⟨g10, e10, r10⟩ := f10 (upd_ne h (by decide))
        exact ⟨g10, e10, fun h11 => r10 (by rw [upd_other (by decide)] at h11; exact h11)⟩), (fun h => by
        obtain ⟨A9, c9, e9, wp, w9, e10, r⟩ := f11 (upd_ne h (by decide))
        exact ⟨A9, c9, e9, wp, w9, by rw [upd_other (by decide)]; exact e10, r⟩), (kp f12), (kp f13), (fun h => absurd (f14 (upd_ne h (by decide)) 8 (by decide)) (by rw [hL]; decide))⟩
    · obtain rfl := Option.some.inj ho
      have g8 := f8 (hd ⟨8, .data⟩ (by simp) rfl)
      subst g8
      refine wpOp_step rfl (fun K' hK => ?_)
      go_simp
      refine hK _ _ ?_
      exact ⟨_, _, _, _, _, _, _, _, _, _, _, _, _, _, rfl, (fun h => I0 (by rw [upd_other (by decide)] at h; exact h)), (Shut.step I1 (by
        intro p hp e
        simp only [List.mem_cons, List.not_mem_nil, or_false] at hp
        rcases hp with rfl | rfl | rfl | rfl | rfl | rfl | rfl | rfl | rfl | rfl | rfl | rfl
        · exact absurd e (by decide)
        · exact absurd e (by decide)
        · exact absurd e (by decide)
        · exact absurd e (by decide)
        · exact absurd e (by decide)
        · exact hd ⟨8, .data⟩ (by simp) rfl
        · exact absurd e (by decide)
        · exact absurd e (by decide)
        · exact absurd e (by decide)
        · exact absurd e (by decide)
        · exact absurd e (by decide)
        · exact absurd e (by decide))), (kp f0), (kp f1), (kp f2), (kp f3), (kp f4), (kp f5), (kp f6), (kp f7), (kp f8), (fun _ => rfl), (fun h => by
        obtain ⟨g10, e10, r10⟩ := f10 (upd_ne h (by decide))
        exact ⟨g10, e10, fun h11 => r10 (by rw [upd_other (by decide)] at h11; exact h11)⟩), (fun h => by
        obtain ⟨A9, c9, e9, wp, w9, e10, r⟩ := f11 (upd_ne h (by decide))
        exact ⟨A9, c9, e9, wp, w9, by rw [upd_other (by decide)]; exact e10, r⟩), (kp f12), (kp f13), (fun h => absurd (f14 (upd_ne h (by decide)) 9 (by decide)) (by rw [hL]; decide))⟩
    · obtain rfl := Option.some.inj ho
      have g6 := f6 (hd ⟨6, .data⟩ (by simp) rfl)
      have g9 := f9 (hd ⟨9, .data⟩ (by simp) rfl)
      subst g6
      subst g9
      have hL11 : L 11 = false := by
        cases e : L 11
        · rfl
        · exact absurd (I1.get (i := 11) (j := 10) (by decide) e) (by rw [hL]; decide)
      obtain ⟨S', q'⟩ := I0 hL11
      have b5 : Below ww.heap.size ww (ww.alloc (.cells #[.int .i64 x, .int .i64 (m : Int)] 3)) := (Below.refl _ _).alloc (Nat.le_refl _) _
      have o1 := (own_twoI ww x (m : Int) w0.heap.size S'.low.size).reads
      refine wpOp_step rfl (fun K' hK => ?_)
      go_simp
      refine hK _ _ ?_
      exact ⟨_, _, _, _, _, _, _, _, _, _, _, _, _, _, rfl, (fun _ => ⟨S'.up b5, q'.keep b5 q'.lt⟩), (Shut.step I1 (by
        intro p hp e
        simp only [List.mem_cons, List.not_mem_nil, or_false] at hp
        rcases hp with rfl | rfl | rfl | rfl | rfl | rfl | rfl | rfl | rfl | rfl | rfl | rfl
        · exact absurd e (by decide)
        · exact absurd e (by decide)
        · exact absurd e (by decide)
        · exact absurd e (by decide)
        · exact absurd e (by decide)
        · exact absurd e (by decide)
        · exact hd ⟨6, .data⟩ (by simp) rfl
        · exact hd ⟨9, .data⟩ (by simp) rfl
        · exact absurd e (by decide)
        · exact absurd e (by decide)
        · exact absurd e (by decide)
        · exact absurd e (by decide))), (kp f0), (kp f1), (kp f2), (kp f3), (kp f4), (kp f5), (kp f6), (kp f7), (kp f8), (kp f9), (fun _ => ⟨_, rfl, fun _ => o1⟩), (fun h => absurd (I1.get (i := 11) (j := 10) (by decide) (upd_ne h (by decide))) (by rw [hL]; decide)), (kp f12), (kp f13), (fun h => absurd (f14 (upd_ne h (by decide)) 10 (by decide)) (by rw [hL]; decide))⟩
    · obtain rfl := Option.some.inj ho
      have g4 := f4 (hd ⟨4, .data⟩ (by simp) rfl)
      have g10 := f10 (hd ⟨10, .data⟩ (by simp) rfl)
      subst g4
      obtain ⟨S', q'⟩ := I0 hL
      obtain ⟨g10, e10, r10⟩ := g10
      subst e10
      have o1 := r10 hL
      have hz := S'.low.size
      refine wpOp_step rfl (fun K' hK => ?_)
      refine app_stepI rfl (.tmp 8) (.tmp 14) rfl w0.heap.size _ vs rfl S'.view (some ⟨g10, 0, none⟩) 2 2 _ [x, (m : Int)] rfl o1 (by rw [HP.out]; omega) hz ?_
      intro v' w' o9 g9 s9
      obtain ⟨A9, c9, e9, -⟩ := o9.form
      rw [List.length_append, HP.out] at e9
      subst e9
      refine hK _ _ ?_
      exact ⟨_, _, _, _, _, _, _, _, _, _, _, _, _, _, rfl, (fun h => absurd h (by rw [upd_self]; decide)), (Shut.step I1 (by
        intro p hp e
        simp only [List.mem_cons, List.not_mem_nil, or_false] at hp
        rcases hp with rfl | rfl | rfl | rfl | rfl | rfl | rfl | rfl | rfl | rfl | rfl | rfl
        · exact absurd e (by decide)
        · exact absurd e (by decide)
        · exact absurd e (by decide)
        · exact absurd e (by decide)
        · exact absurd e (by decide)
        · exact absurd e (by decide)
        · exact absurd e (by decide)
        · exact absurd e (by decide)
        · exact hd ⟨4, .data⟩ (by simp) rfl
        · exact hd ⟨10, .data⟩ (by simp) rfl
        · exact absurd e (by decide)
        · exact absurd e (by decide))), (kp f0), (kp f1), (kp f2), (kp f3), (kp f4), (kp f5), (kp f6), (kp f7), (kp f8), (kp f9), (fun _ => ⟨g10, rfl, fun h => absurd h (by rw [upd_self]; decide)⟩), (fun _ => ⟨A9, c9, rfl, ww, w', by
        rw [upd_other (by decide)]
        cases e : L 14
        · rw [if_neg (by decide)]
        · exact absurd (f14 e 11 (by decide)) (by rw [hL]; decide), S', q', g9, o9, s9⟩), (kp f12), (kp f13), (fun h => absurd (f14 (upd_ne h (by decide)) 11 (by decide)) (by rw [hL]; decide))⟩
    · obtain rfl := Option.some.inj ho
      have g0 := f0 (hd ⟨0, .data⟩ (by simp) rfl)
      subst g0
      refine wpOp_step rfl (fun K' hK => ?_)
      go_simp
      refine hK _ _ ?_
      exact ⟨_, _, _, _, _, _, _, _, _, _, _, _, _, _, rfl, (fun h => I0 (by rw [upd_other (by decide)] at h; exact h)), (Shut.step I1 (by
        intro p hp e
        simp only [List.mem_cons, List.not_mem_nil, or_false] at hp
        rcases hp with rfl | rfl | rfl | rfl | rfl | rfl | rfl | rfl | rfl | rfl | rfl | rfl
        · exact absurd e (by decide)
        · exact absurd e (by decide)
        · exact absurd e (by decide)
        · exact absurd e (by decide)
        · exact absurd e (by decide)
        · exact absurd e (by decide)
        · exact absurd e (by decide)
        · exact absurd e (by decide)
        · exact absurd e (by decide)
        · exact absurd e (by decide)
        · exact hd ⟨0, .data⟩ (by simp) rfl
        · exact absurd e (by decide))), (kp f0), (kp f1), (kp f2), (kp f3), (kp f4), (kp f5), (kp f6), (kp f7), (kp f8), (kp f9), (fun h => by
        obtain ⟨g10, e10, r10⟩ := f10 (upd_ne h (by decide))
        exact ⟨g10, e10, fun h11 => r10 (by rw [upd_other (by decide)] at h11; exact h11)⟩), (fun h => by
        obtain ⟨A9, c9, e9, wp, w9, e10, r⟩ := f11 (upd_ne h (by decide))
        exact ⟨A9, c9, e9, wp, w9, by rw [upd_other (by decide)]; exact e10, r⟩), (fun _ => rfl), (kp f13), (fun h => absurd (f14 (upd_ne h (by decide)) 12 (by decide)) (by rw [hL]; decide))⟩
    · obtain rfl := Option.some.inj ho
      have g12 := f12 (hd ⟨12, .data⟩ (by simp) rfl)
      subst g12
      refine wpOp_step rfl (fun K' hK => ?_)
      go_simp
      refine hK _ _ ?_
      exact ⟨_, _, _, _, _, _, _, _, _, _, _, _, _, _, rfl, (fun h => I0 (by rw [upd_other (by decide)] at h; exact h)), (Shut.step I1 (by
        intro p hp e
        simp only [List.mem_cons, List.not_mem_nil, or_false] at hp
        rcases hp with rfl | rfl | rfl | rfl | rfl | rfl | rfl | rfl | rfl | rfl | rfl | rfl
        · exact absurd e (by decide)
        · exact absurd e (by decide)
        · exact absurd e (by decide)
        · exact absurd e (by decide)
        · exact absurd e (by decide)
        · exact absurd e (by decide)
        · exact absurd e (by decide)
        · exact absurd e (by decide)
        · exact absurd e (by decide)
        · exact absurd e (by decide)
        · exact absurd e (by decide)
        · exact hd ⟨12, .data⟩ (by simp) rfl)), (kp f0), (kp f1), (kp f2), (kp f3), (kp f4), (kp f5), (kp f6), (kp f7), (kp f8), (kp f9), (fun h => by
        obtain ⟨g10, e10, r10⟩ := f10 (upd_ne h (by decide))
        exact ⟨g10, e10, fun h11 => r10 (by rw [upd_other (by decide)] at h11; exact h11)⟩), (fun h => by
        obtain ⟨A9, c9, e9, wp, w9, e10, r⟩ := f11 (upd_ne h (by decide))
        exact ⟨A9, c9, e9, wp, w9, by rw [upd_other (by decide)]; exact e10, r⟩), (kp f12), (fun _ => rfl), (fun h => absurd (f14 (upd_ne h (by decide)) 13 (by decide)) (by rw [hL]; decide))⟩
    · obtain rfl := Option.some.inj ho
      have g11 := f11 (hd ⟨11, .data⟩ (by simp) rfl)
      have g13 := f13 (hd ⟨13, .data⟩ (by simp) rfl)
      subst g13
      have lq : Hid (∀ q, q < 14 → L q = true) := Lib.hid (by
        intro q hq
        obtain rfl | rfl | rfl | rfl | rfl | rfl | rfl | rfl | rfl | rfl | rfl | rfl | rfl | rfl : q = 0 ∨ q = 1 ∨ q = 2 ∨ q = 3 ∨ q = 4 ∨ q = 5 ∨ q = 6 ∨ q = 7 ∨ q = 8 ∨ q = 9 ∨ q = 10 ∨ q = 11 ∨ q = 12 ∨ q = 13 := by omega
        · exact hd ⟨0, .phase⟩ (by simp) rfl
        · exact hd ⟨1, .phase⟩ (by simp) rfl
        · exact hd ⟨2, .phase⟩ (by simp) rfl
        · exact hd ⟨3, .phase⟩ (by simp) rfl
        · exact hd ⟨4, .phase⟩ (by simp) rfl
        · exact hd ⟨5, .phase⟩ (by simp) rfl
        · exact hd ⟨6, .phase⟩ (by simp) rfl
        · exact hd ⟨7, .phase⟩ (by simp) rfl
        · exact hd ⟨8, .phase⟩ (by simp) rfl
        · exact hd ⟨9, .phase⟩ (by simp) rfl
        · exact hd ⟨10, .phase⟩ (by simp) rfl
        · exact hd ⟨11, .phase⟩ (by simp) rfl
        · exact I1.get (i := 13) (j := 12) (by decide) (hd ⟨13, .data⟩ (by simp) rfl)
        · exact hd ⟨13, .data⟩ (by simp) rfl)
      obtain ⟨A9, c9, e9, wp, w9, e10, r1, rq, r2, r3, r4⟩ := g11
      rw [hL, if_neg (by decide)] at e10
      subst e10
      subst e9
      have hb9 := Rw.far r1.box r2 (own_box r1.view r1.box)
      have z0 : ww.cell? ⟨b, 2, none⟩ = some (.slice A2 p c2) := hb9.cell 2
      have zf : ww.frozen? ⟨b, 2, none⟩ = false := hb9.frozen 2
      refine wpOp_step rfl (fun K' hK => ?_)
      go_simp
      refine hK _ _ ?_
      exact ⟨_, _, _, _, _, _, _, _, _, _, _, _, _, _, rfl, (fun h => absurd (lq.out 11 (by decide)) (by rw [upd_other (by decide)] at h; rw [h]; decide)), (Shut.step I1 (by
        intro p hp e
        simp only [List.mem_cons, List.not_mem_nil, or_false] at hp
        rcases hp with rfl | rfl | rfl | rfl | rfl | rfl | rfl | rfl | rfl | rfl | rfl | rfl
        · exact absurd e (by decide)
        · exact absurd e (by decide)
        · exact absurd e (by decide)
        · exact absurd e (by decide)
        · exact absurd e (by decide)
        · exact absurd e (by decide)
        · exact absurd e (by decide)
        · exact absurd e (by decide)
        · exact absurd e (by decide)
        · exact absurd e (by decide)
        · exact absurd e (by decide)
        · exact absurd e (by decide))), (kp f0), (kp f1), (kp f2), (kp f3), (kp f4), (kp f5), (kp f6), (kp f7), (kp f8), (kp f9), (fun h => by
        obtain ⟨g10, e10, r10⟩ := f10 (upd_ne h (by decide))
        exact ⟨g10, e10, fun h11 => absurd (lq.out 11 (by decide)) (by rw [upd_other (by decide)] at h11; rw [h11]; decide)⟩), (fun _ => ⟨A9, c9, rfl, wp, ww, by rw [upd_self, if_pos rfl], r1, rq, r2, r3, r4⟩), (kp f12), (kp f13), (fun _ q hq => upd_mono (lq.out q hq))⟩
  case hdone =>
    rintro L ac ww hall ⟨t4, t5, t6, t7, t8, t9, t10, t11, t12, t13, t14, t15, t16, t17, rfl, I0, I1, f0, f1, f2, f3, f4, f5, f6, f7, f8, f9, f10, f11, f12, f13, f14⟩
    have e0 := f0 (hall 0 (by decide))
    have e1 := f1 (hall 1 (by decide))
    have e2 := f2 (hall 2 (by decide))
    have e3 := f3 (hall 3 (by decide))
    have e4 := f4 (hall 4 (by decide))
    have e5 := f5 (hall 5 (by decide))
    have e6 := f6 (hall 6 (by decide))
    have e7 := f7 (hall 7 (by decide))
    have e8 := f8 (hall 8 (by decide))
    have e9 := f9 (hall 9 (by decide))
    have e10 := f10 (hall 10 (by decide))
    have e11 := f11 (hall 11 (by decide))
    have e12 := f12 (hall 12 (by decide))
    have e13 := f13 (hall 13 (by decide))
    have e14 := f14 (hall 14 (by decide))
    clear f0 f1 f2 f3 f4 f5 f6 f7 f8 f9 f10 f11 f12 f13 f14
    obtain ⟨A9, c9, rfl, wp, w9, e17, r1, rq, r2, r3, r4⟩ := e11
    rw [hall 14 (by decide), if_pos rfl] at e17
    subst e17
    have SF := r1.viewNew r2 r3 r4
    have qF := (Rw.far rq r2 (row_type r1.view rq (by decide))).other (g' := b) (i := 2) (rw_type rq r1.box (by decide)) (.slice A9 (p + 2) c9)
    clear I0 I1 e0 e1 e2 e3 e4 e5 e6 e7 e8 e9 e10 e12 e13 e14 hall r1 rq r2 r3 r4
    go_upto_region 2 with fail
    generalize w9.setCell ⟨b, 2, none⟩ (.slice A9 (p + 2) c9) = w5 at SF qF ⊢
    have x2 : w5.cell? ⟨q, 2, none⟩ = some (.slice A m c) := qF.cell 2
    go_wp2_with fail
    with_reducible refine (putTargets_any SF hn HC.out HI.out HD.out A m c hs hm HO.out (by rw [List.length_append, HP.out]; simp; omega)).mono ?_
    rintro e w6 ⟨⟨v, rfl⟩, ov', vv', S6⟩
    rw [HE.out] at S6
    go_wp2_with fail
    go_end0
    exact ⟨⟨_, rfl⟩, _, _, S6⟩
end Go.Proofs.Ytakdjiojahlnmaa
namespace Go.Proofs.Ytakdjiojahlnmaa
open Go.RowKit
set_option maxRecDepth 100000
set_option maxHeartbeats 1000000 in
theorem mul64_one (n : Nat) (hn : n ≤ 1000000) (w : World) : Calls Try.prog 111 #[.int .u64 1, .int .u64 n] w fun e w' => e = .returned (.tuple #[.int .u64 0, .int .u64 n]) ∧ w = w' := by
  have E1 : bits .and .u64 (n : Int) 4294967295 = (n : Int) := by
    have := u64_and_nat n 4294967295 (by omega) (by omega)
    rw [show (4294967295 : Int) = ((4294967295 : Nat) : Int) from rfl, this, show (4294967295 : Nat) = 2 ^ 32 - 1 from rfl, Nat.and_two_pow_sub_one_eq_mod]
    omega
  have E2 : (n : Int) / 4294967296 = 0 := by omega
  have E3 : IntKind.u64.wrap (n : Int) = n := by rw [IntKind.wrap_u64]; omega
  have E4 : bits .and .u64 1 4294967295 = 1 := by decide +kernel
  have E5 : bits .and .u64 0 4294967295 = 0 := by decide +kernel
  have E6 : IntKind.u64.wrap 0 = 0 := by decide +kernel
  have H := Lib.hid (And.intro E1 (And.intro E2 (And.intro E3 (And.intro E4 (And.intro E5 E6)))))
  clear E1 E2 E3 E4 E5 E6
  go_enter Try.func111, Try.ntmps111
  go_wp2_with fail
  go_ret2
  obtain ⟨E1, E2, E3, E4, E5, E6⟩ := H.out
  simp only [E1, E2, E3, E4, E5, E6, Int.one_mul, Int.add_zero, Int.zero_ediv]
  exact ⟨rfl, trivial⟩
theorem mul_one_ (n : Nat) (hn : n ≤ 1000000) (w : World) : Calls Try.prog 104 #[.int .u64 1, .int .u64 n] w fun e w' => e = .returned (.tuple #[.int .u64 0, .int .u64 n]) ∧ w = w' := by
  go_enter Try.func104, Try.ntmps104
  go_wp2_with fail
  refine (mul64_one n hn _).mono ?_
  rintro e w1 ⟨rfl, rfl⟩
  go_wp2_with fail
  go_ret2
  exact ⟨rfl, rfl⟩
theorem repN_len {N k : Nat} (h : k ≤ N) : (repN N k).length = N := by
  rw [repN, List.length_append, List.length_replicate, List.length_replicate]
  omega
theorem repN_copy {N k m : Nat} : (repN N k).take k ++ List.replicate m (Value.int .i64 (-1)) ++ (repN N k).drop (k + m) = repN N (k + m) := by
  unfold repN
  rw [List.take_append_of_le_length (by simp), List.drop_append, List.take_of_length_le (by simp), List.replicate_append_replicate]
  simp [List.drop_replicate]
  omega
theorem copyN_first {w : World} {g g0 N : Nat} (hr : RowN w g0 N 0) (hc : w.cell? ⟨g, 0, none⟩ = some (.int .i64 (-1))) (ty : TypeId) :
    (Builtin.copy_ #[24, 24] ty #[.slice (some ⟨g0, 0, none⟩) N N, .slice (some ⟨g, 0, none⟩) 1 1]).run Try.prog w = .ok (.int .i64 (Nat.min 1 N : Nat)) (w.setRow g0 (repN N (Nat.min 1 N)).toArray) := by
  have hm : Nat.min 1 N ≤ N := Nat.min_le_right _ _
  have h1 : Nat.min 1 N ≤ 1 := Nat.min_le_left _ _
  generalize hk : Nat.min 1 N = m at *
  have := run_copy_row (P := Try.prog) w 24 24 ty 3 g0 0 N N ⟨g, 0, none⟩ 1 1 (repN N 0).toArray 3 (List.replicate m (Value.int .i64 (-1))) Try.underlying24 info_intsize hr (by rw [List.length_replicate, hk]) (by
    intro j v hj
    rw [List.getElem?_replicate] at hj
    split at hj
    · next h2 =>
      have hj := Option.some.inj hj
      subst hj
      have : j = 0 := by omega
      subst this
      exact hc
    · cases hj) (by simp [repN_len]; omega) (by intro v hv; rw [List.eq_of_mem_replicate hv]; rfl)
  rw [this, List.length_replicate]
  have e := repN_copy (N := N) (k := 0) (m := m)
  rw [Nat.zero_add] at e
  show Result.ok _ (w.setRow g0 ((repN N 0).take 0 ++ List.replicate m (Value.int .i64 (-1)) ++ (repN N 0).drop (0 + m)).toArray) = _
  rw [Nat.zero_add, e]
  rfl
theorem copyN_step {w : World} {g N k : Nat} (hr : RowN w g N k) (hk : k ≤ N) (ty : TypeId) :
    (Builtin.copy_ #[24, 24] ty #[.slice (some ⟨g, k, none⟩) (N - k) (N - k), .slice (some ⟨g, 0, none⟩) k N]).run Try.prog w = .ok (.int .i64 (Nat.min k (N - k) : Nat)) (w.setRow g (repN N (k + Nat.min k (N - k))).toArray) := by
  have hm : Nat.min k (N - k) ≤ N - k := Nat.min_le_right _ _
  have h1 : Nat.min k (N - k) ≤ k := Nat.min_le_left _ _
  generalize hmm : Nat.min k (N - k) = m at *
  have := run_copy_row (P := Try.prog) w 24 24 ty 3 g k (N - k) (N - k) ⟨g, 0, none⟩ k N (repN N k).toArray 3 (List.replicate m (Value.int .i64 (-1))) Try.underlying24 info_intsize hr (by rw [List.length_replicate, hmm]) (by
    intro j v hj
    rw [List.getElem?_replicate] at hj
    split at hj
    · next h2 =>
      have hj := Option.some.inj hj
      subst hj
      have := hr.cell (j := j) (by omega)
      rw [add_lit, Nat.zero_add]
      exact this
    · cases hj) (by simp [repN_len hk]; omega) (by intro v hv; rw [List.eq_of_mem_replicate hv]; rfl)
  rw [this, List.length_replicate]
  have e := repN_copy (N := N) (k := k) (m := m)
  show Result.ok _ (w.setRow g ((repN N k).take k ++ List.replicate m (Value.int .i64 (-1)) ++ (repN N k).drop (k + m)).toArray) = _
  rw [e]
  rfl
set_option maxHeartbeats 1000000 in
theorem repeatN_any (N g : Nat) (w : World) (hN : N ≤ 1000000) (hg : g < w.heap.size) (hc : w.cell? ⟨g, 0, none⟩ = some (.int .i64 (-1))) :
    Calls Try.prog 87 #[.slice (some ⟨g, 0, none⟩) 1 1, .int .i64 N] w (GaveI w (List.replicate N (-1))) := by
  have hmk := makeI w N (by omega)
  have b2 : Below w.heap.size w (w.alloc (.cells (Array.replicate N (.int .i64 0)) 3)) := (Below.refl _ _).alloc (Nat.le_refl _) _
  have k2 : RowN (w.alloc (.cells (Array.replicate N (.int .i64 0)) 3)) w.heap.size N 0 := by
    have := Rw.new w 3 (Array.replicate N (.int .i64 0))
    have e : (repN N 0).toArray = Array.replicate N (.int .i64 0) := by simp [repN]
    unfold RowN
    rw [e]
    exact this
  have hc2 := (b2.cell (p := ⟨g, 0, none⟩) hg).trans hc
  obtain ⟨w2, hw2⟩ : ∃ w2, w.alloc (.cells (Array.replicate N (.int .i64 0)) 3) = w2 := ⟨_, rfl⟩
  rw [hw2] at hmk b2 k2 hc2
  obtain ⟨G, hG⟩ : ∃ G, w.heap.size = G := ⟨_, rfl⟩
  rw [hG] at hmk b2 k2
  have hcp := copyN_first k2 hc2
  have k3 := k2.put (Nat.min 1 N)
  have b3 : Below G w (w2.setRow G (repN N (Nat.min 1 N)).toArray) := below_setRow b2 (Nat.le_refl _) _
  obtain ⟨w3, hw3⟩ : ∃ w3, w2.setRow G (repN N (Nat.min 1 N)).toArray = w3 := ⟨_, rfl⟩
  rw [hw3] at hcp k3 b3
  have hm0 : Nat.min 1 N ≤ N := Nat.min_le_right _ _
  have hm1 : 0 < N → 0 < Nat.min 1 N := fun h => by have : Nat.min 1 N = min 1 N := rfl; omega
  generalize Nat.min 1 N = m0 at hcp k3 b3 hm0 hm1
  clear hw2 hw3
  have E3 : IntKind.u64.wrap (N : Int) = N := by rw [IntKind.wrap_u64]; omega
  have E4 : wrap64 (N : Int) = N := by unfold wrap64; omega
  have E5 : ¬ ((N : Int) > 9223372036854775807) := by omega
  have E6 : ¬ ((N : Int) < 0) := by omega
  go_enter Try.func87, Try.ntmps87
  go_wp2_with fail
  refine (mul_one_ N hN _).mono ?_
  rintro e w1 ⟨rfl, rfl⟩
  go_wp2_with fail
  clear k2 hc2 hmk hcp b2
  go_loopw [8] (fun v wr => ∃ k : Nat, k ≤ N ∧ (0 < N → 0 < k) ∧ v = .int .i64 k ∧ RowN wr G N k ∧ Below G w wr) (fun v _ => N - (intOf v).toNat)
  case atStart => exact ⟨m0, hm0, hm1, rfl, k3, b3⟩
  case round =>
    clear k3 b3
    obtain ⟨k, hk, hk0, rfl, hr, bb⟩ := hrel
    by_cases hlt : k < N
    · have hcp := copyN_step (w := wr.drew) (N := N) hr hk
      have hle : Nat.min k (N - k) ≤ N - k := Nat.min_le_right _ _
      have hpos : 0 < Nat.min k (N - k) := by have : Nat.min k (N - k) = min k (N - k) := rfl; omega
      have kn := RowN.put (w := wr.drew) hr (k + Nat.min k (N - k))
      have bn : Below G w (wr.drew.setRow G (repN N (k + Nat.min k (N - k))).toArray) := below_setRow bb.drew (Nat.le_refl _) _
      obtain ⟨w3, hw3⟩ : ∃ w3, wr.drew.setRow G (repN N (k + Nat.min k (N - k))).toArray = w3 := ⟨_, rfl⟩
      rw [hw3] at hcp kn bn
      generalize Nat.min k (N - k) = m at hcp kn bn hle hpos
      clear hw3
      have hltI : (k : Int) < N := by omega
      go_wp2_with fail
      go_region
      go_wp2
      go_roundw
      case rel => exact ⟨k + m, by omega, fun _ => by omega, by go_num, kn, bn⟩
      case measure => simp [intOf]; omega
    · obtain rfl : k = N := by omega
      go_wp2_with fail
      go_ret
      refine ⟨_, rfl, ⟨by simp, .inr ⟨G, k, (repN k k).toArray, by simp, by omega, hr, by simp, by unfold maxLen; omega, by simp [repN_len], by simp [repN]⟩⟩, by rw [hG]; exact bb⟩
end Go.Proofs.Ytakdjiojahlnmaa
namespace Go.Proofs.Ytakdjiojahlnmaa
open Go.RowKit
set_option maxRecDepth 100000
set_option maxHeartbeats 4000000 in
theorem encoded_any (A R : Option Addr) (n c m d : Nat) (h : Hp) (w : World) (hs : HS w w.heap.size A n R m h) (hv : Hps.validH h = true) :
    Calls Try.prog 57 #[heapV A n c R m d] w fun e w' => ∃ ov N n' c' vv, e = .returned (.agg #[ov, .slice N n' c', vv]) ∧ OwnI w' w.heap.size ov (Hps.orderH h) ∧ OwnI w' w.heap.size vv (Hps.viewH h) ∧ Below w.heap.size w w' := by
  have hlc := hs.cells.1
  have hlr := hs.roots.1
  obtain ⟨s1, s2, s3⟩ := Hps.valid_small hv
  rw [hlc] at s1
  have HV := Lib.hid hv
  have HC := Lib.hid hlc
  have HR := Lib.hid (Hps.valid_iff.1 hv).2.2.2
  have HS3 := Lib.hid s3
  obtain rfl : m = 4 := by omega
  have b1 := (Below.refl w.heap.size w).alloc (Nat.le_refl _) (.cells #[.slice A n c, .slice R 4 d] 26)
  have q1 := Rw.new w 26 #[.slice A n c, .slice R 4 d]
  have b2 := b1.alloc (by simp) (.cells #[.slice none 0 0, .slice none 0 0, .slice none 0 0] 89)
  have q2 := q1.alloc (.cells #[.slice none 0 0, .slice none 0 0, .slice none 0 0] 89)
  have r2 := Rw.new (w.alloc (.cells #[.slice A n c, .slice R 4 d] 26)) 89 #[.slice none 0 0, .slice none 0 0, .slice none 0 0]
  rw [World.size_alloc] at r2
  have hs2 := hs.up b2
  have hz2 : ((w.alloc (.cells #[.slice A n c, .slice R 4 d] 26)).alloc (.cells #[.slice none 0 0, .slice none 0 0, .slice none 0 0] 89)).heap.size = w.heap.size + 2 := by simp
  clear hv s3 q1 b1
  go_enter Try.func57, Try.ntmps57
  go_upto_region 1 with fail
  generalize (w.alloc (.cells #[.slice A n c, .slice R 4 d] 26)).alloc (.cells #[.slice none 0 0, .slice none 0 0, .slice none 0 0] 89) = w0 at b2 q2 r2 hs2 hz2 ⊢
  have HZ2 := Lib.hid hz2
  clear hz2
  have x0 : (w0.alloc (.cells #[.int .i64 (-1)] 3)).cell? ⟨w.heap.size, 0, none⟩ = some (.slice A n c) := (q2.alloc _).cell 0
  have b3 := (Below.refl w0.heap.size w0).alloc (Nat.le_refl _) (.cells #[.int .i64 (-1)] 3)
  have c3 : (w0.alloc (.cells #[.int .i64 (-1)] 3)).cell? ⟨w0.heap.size, 0, none⟩ = some (.int .i64 (-1)) := (Rw.new w0 3 #[.int .i64 (-1)]).cell 0
  go_wp2_with fail
  refine (repeatN_any n _ _ (by omega) (by simp) c3).mono ?_
  rintro e w1 ⟨v1, rfl, o1, b4⟩
  rw [World.size_alloc] at o1 b4
  have b5 := b3.trans (b4.mono (by simp))
  have z5 := b4.size
  have o5 := o1.base (base' := w0.heap.size) (by omega)
  obtain ⟨A1, c1, e1, -⟩ := o5.form
  rw [List.length_replicate] at e1
  subst e1
  clear b3 c3 b4 o1
  have S : EncX w0 (w1.alloc (.cells #[.slice none 0 0, .slice A1 n c1, .slice none 0 0] 89)) w1.heap.size (.slice none 0 0) (.slice A1 n c1) (.slice none 0 0) [] (Hps.numsL [] n) [] := by
    refine ⟨World.ownsRow_nil _ _ _ _, ?_, World.ownsRow_nil _ _ _ _, .inl rfl, .inl rfl, ?_, Rw.new _ _ _, b5.alloc (by simp at z5; omega) _, by simp at z5; omega⟩
    · rw [Hps.numsL_nil]
      exact World.ownsRow.alloc o5 _
    · cases e : (Value.slice A1 n c1).ownBlock with
      | none => exact .inl rfl
      | some k => exact .inr (by simp [Value.ownBlock])
  clear o5 b5 z5 x0
  go_upto_region 2 with fail
  generalize w1.alloc (.cells #[.slice none 0 0, .slice A1 n c1, .slice none 0 0] 89) = w2 at S ⊢
  generalize w1.heap.size = b at S ⊢
  have hib : Hps.InB h.cs [] := fun x hx => by simp at hx
  have hq0 : w.heap.size < w0.heap.size := by rw [HZ2.out]; omega
  have x1 : w2.cell? ⟨w.heap.size, 1, none⟩ = some (.slice R 4 d) := (q2.keep S.low hq0).cell 1
  go_wp2_with fail
  with_reducible refine (putTargets_any S (by omega) HC.out hib List.nodup_nil R 4 d hs2.roots (by omega) HR.out (by simp)).mono ?_
  rintro e w3 ⟨⟨v, rfl⟩, ov, vv, S3⟩
  rw [List.nil_append] at S3
  clear S x1
  go_wp2_with fail
  go_loopw [4] (fun i wr => ∃ (k : Nat) (l v : List Int) (ov vv : Value), i = .int .i64 k ∧ EncX w0 wr b ov (.slice A1 n c1) vv l (Hps.numsL l n) v ∧ Hid (Hps.Enc h k l v)) (fun i _ => n + 1 - (intOf i).toNat)
  case atStart => exact ⟨0, _, _, _, _, rfl, S3, Lib.hid (Hps.Enc.start HV.out)⟩
  case round =>
    clear S3
    obtain ⟨k, l, v, ov, vv, rfl, S, HE⟩ := hrel
    have hle := HE.out.le
    have hll := HE.out.len
    rw [HC.out] at hll
    obtain ⟨A2, c2, rfl, -⟩ := S.ord.form
    obtain ⟨q, hq⟩ : ∃ q, l.length = q := ⟨_, rfl⟩
    have HQ := Lib.hid hq
    rw [hq] at S hle hll
    have x0 : wr.cell? ⟨b, 0, none⟩ = some (.slice A2 q c2) := S.box.cell 0
    clear hq
    by_cases hlt : k < q
    · obtain ⟨x, hx, hxn⟩ := HE.out.at_ (i := k) (by rw [HQ.out]; exact hlt)
      rw [HC.out] at hxn
      obtain ⟨g2, o2, x', e1, _, hx', d2⟩ := S.ord.reads.at_ (k := k) hlt
      subst e1
      rw [hx] at hx'
      obtain rfl := Option.some.inj hx'
      obtain ⟨g, o, cl, A', m', cc, e1, hg, hcl, u1, u2, u3, hmc, hi⟩ := hs2.cells.at_ hxn
      subst e1
      have d3 := (S.low.cell (p := ⟨g, o + x * 3, none⟩) hg).trans u1
      have d4 := (S.low.cell (p := ⟨g, o + x * 3 + 1, none⟩) hg).trans u2
      have d5 := (S.low.cell (p := ⟨g, o + x * 3 + 2, none⟩) hg).trans u3
      have y0 : wr.cell? ⟨w.heap.size, 0, none⟩ = some (.slice (some ⟨g, o, none⟩) n c) := (q2.keep S.low hq0).cell 0
      have hkq : (k : Int) < q := by omega
      have hxnI : (x : Int) < n := by omega
      have SS := Lib.hid S
      have HN := Lib.hid (HE.out.next HV.out hx hcl)
      have hm3 := HS3.out cl (List.mem_of_getElem? hcl)
      have HOK := Lib.hid (Hps.valid_refs HV.out cl (List.mem_of_getElem? hcl))
      have HVL := Lib.hid (HE.out.small HV.out)
      have hml := hi.1
      clear S hx hcl u1 u2 u3 hx'
      go_upto_region 6 with fail
      go_still_tail 10, (by kernel_rfl)
      change wpList _ _ _ _ _ wr.drew
      have S4 := SS.out.drew
      generalize wr.drew = w4 at S4 ⊢
      clear SS d2 d3 d4 d5 y0 x0
      go_wp2_with fail
      with_reducible refine (putCell_any S4 (by omega) HC.out HE.out.bf.inb HE.out.bf.nodup cl.u cl.d A' m' cc hi (by omega) HOK.out (by have := HVL.out; omega)).mono ?_
      rintro e w5 ⟨⟨v5, rfl⟩, ov', vv', S5⟩
      clear S4
      go_wp2_with fail
      go_roundw
      case rel => exact ⟨k + 1, _, _, ov', vv', by go_num, S5, HN⟩
      case measure => simp [intOf]; omega
    · obtain rfl : k = q := by omega
      obtain ⟨F1, F2⟩ := HE.out.fin HV.out (by rw [HQ.out]; exact Nat.le_refl _)
      subst F1 F2
      obtain ⟨A3, c3, rfl, -⟩ := S.view.form
      obtain ⟨p, hp⟩ : ∃ p, (Hps.viewH h).length = p := ⟨_, rfl⟩
      rw [hp] at S
      have x2 : wr.cell? ⟨b, 1, none⟩ = some (.slice A1 n c1) := S.box.cell 1
      have x3 : wr.cell? ⟨b, 2, none⟩ = some (.slice A3 p c3) := S.box.cell 2
      have hq1 : w.heap.size + 1 < w0.heap.size := by rw [HZ2.out]; omega
      have r3 := r2.keep S.low hq1
      have y0 : wr.cell? ⟨w.heap.size + 1, 0, none⟩ = some (.slice none 0 0) := r3.cell 0
      have y1 : wr.cell? ⟨w.heap.size + 1, 1, none⟩ = some (.slice none 0 0) := r3.cell 1
      have y2 : wr.cell? ⟨w.heap.size + 1, 2, none⟩ = some (.slice none 0 0) := r3.cell 2
      have f0 : wr.frozen? ⟨w.heap.size + 1, 0, none⟩ = false := r3.frozen 0
      have f1 : wr.frozen? ⟨w.heap.size + 1, 1, none⟩ = false := r3.frozen 1
      have f2 : wr.frozen? ⟨w.heap.size + 1, 2, none⟩ = false := r3.frozen 2
      have keep : ∀ (W : World) (i : Nat) (u v : Value) (xs : List Int), OwnI W w0.heap.size v xs → OwnI (W.setCell ⟨w.heap.size + 1, i, none⟩ u) w0.heap.size v xs := fun W i u v xs ho => ho.far (put_any W (w.heap.size + 1) i u) (.inr fun e => by
        have := (World.ownsRow.lt ho _ e).1
        omega)
      have D := Lib.hid (And.intro (keep _ 2 (.slice A3 p c3) _ _ (keep _ 1 (.slice A1 n c1) _ _ (keep _ 0 (.slice A2 k c2) _ _ S.ord))) (And.intro (keep _ 2 (.slice A3 p c3) _ _ (keep _ 1 (.slice A1 n c1) _ _ (keep _ 0 (.slice A2 k c2) _ _ S.view)))
        ((((b2.trans (S.low.mono (by omega))).setCell (p := ⟨w.heap.size + 1, 0, none⟩) (by simp) (.slice A2 k c2)).setCell (p := ⟨w.heap.size + 1, 1, none⟩) (by simp) (.slice A1 n c1)).setCell (p := ⟨w.heap.size + 1, 2, none⟩) (by simp) (.slice A3 p c3))))
      have r4 := ((r3.put 0 (.slice A2 k c2)).put 1 (.slice A1 n c1)).put 2 (.slice A3 p c3)
      clear S r3 hp keep
      go_wp2_with fail
      have z0 := r4.cell 0
      have z1 := r4.cell 1
      have z2 := r4.cell 2
      simp only [List.setIfInBounds_toArray, List.set_cons_zero, List.set_cons_succ, List.getElem?_toArray, List.getElem?_cons_zero, List.getElem?_cons_succ] at z0 z1 z2
      exact bodyPost_ret (v := .agg #[.slice A2 k c2, .slice A1 n c1, .slice A3 p c3]) (by simp [results, Try.results57, go_sem, *]) rfl ⟨_, _, _, _, _, rfl, D.out.1.base (by omega), D.out.2.1.base (by omega), D.out.2.2⟩
theorem field_enc1 (A N V : Option Addr) (a c n d v e : Nat) (w : World) : (Instr.field 89 (.agg #[.slice A a c, .slice N n d, .slice V v e]) 1).run Try.prog w = .ok (.slice V v e) w := by kernel_rfl
end Go.Proofs.Ytakdjiojahlnmaa
namespace Go.Proofs.Ytakdjiojahlnmaa
open Go.RowKit
set_option maxRecDepth 100000
set_option maxHeartbeats 4000000 in
theorem sameView_any (A R A' R' : Option Addr) (n c m d n' c' m' d' : Nat) (a b : Hp) (w : World) (hs : HS w w.heap.size A n R m a) (hs' : HS w w.heap.size A' n' R' m' b) (hn : n ≤ 1099511627776) (hm : m ≤ 1099511627776) (hc : n ≤ c) (hmd : m ≤ d) (hn' : n' ≤ 1099511627776) (hm' : m' ≤ 1099511627776) (hc' : n' ≤ c') (hd' : m' ≤ d') :
    Calls Try.prog 26 #[heapV A n c R m d, heapV A' n' c' R' m' d'] w fun e w' => e = .returned (.bool (Hps.sameV a b)) ∧ Below w.heap.size w w' := by
  have b0 : Below w.heap.size w ((w.alloc (.cells #[.slice A n c, .slice R m d] 26)).alloc (.cells #[.slice A' n' c', .slice R' m' d'] 26)) := ((Below.refl _ _).alloc (Nat.le_refl _) _).alloc (by simp) _
  have r0 := hs.up b0
  have s0 := hs'.up b0
  have p0 := (Rw.new w 26 #[.slice A n c, .slice R m d]).alloc (.cells #[.slice A' n' c', .slice R' m' d'] 26)
  have q0 := Rw.new (w.alloc (.cells #[.slice A n c, .slice R m d] 26)) 26 #[.slice A' n' c', .slice R' m' d']
  rw [World.size_alloc] at q0
  have HLA := Lib.hid (Hps.view_small a)
  have HLB := Lib.hid (Hps.view_small b)
  rcases (show (Hps.validH a = false) ∨ (Hps.validH a = true ∧ Hps.validH b = false) ∨ (Hps.validH a = true ∧ Hps.validH b = true) by cases Hps.validH a <;> cases Hps.validH b <;> simp) with hva | ⟨hva, hvb⟩ | ⟨hva, hvb⟩
  · have HSV := Lib.hid (show Hps.sameV a b = false from by rw [Hps.sameV, hva, Bool.false_and])
    have HVA := Lib.hid hva
    clear hva
    go_enter Try.func26, Try.ntmps26
    go_upto_region 1 with fail
    generalize (w.alloc (.cells #[.slice A n c, .slice R m d] 26)).alloc (.cells #[.slice A' n' c', .slice R' m' d'] 26) = w3 at b0 r0 s0 p0 q0 ⊢
    have hpl := p0.lt
    have hql := q0.lt
    have x0 : w3.cell? ⟨w.heap.size, 0, none⟩ = some (.slice A n c) := p0.cell 0
    have x1 : w3.cell? ⟨w.heap.size, 1, none⟩ = some (.slice R m d) := p0.cell 1
    have y0 : w3.cell? ⟨w.heap.size + 1, 0, none⟩ = some (.slice A' n' c') := q0.cell 0
    have y1 : w3.cell? ⟨w.heap.size + 1, 1, none⟩ = some (.slice R' m' d') := q0.cell 1
    refine wp_region_inv (by kernel_rfl) (by kernel_rfl) (fun L ac ww => ∃ t4 t5 t6 t7 t8 t9 t10 t11 t12 t13 t14 t15 t16 t17 t18 t19 : Value, ac = { tmps := #[heapV A n c R m d, heapV A' n' c' R' m' d', Value.pointer (some { block := w.heap.size, off := 0 }), Value.pointer (some { block := w.heap.size + 1, off := 0 }), t4, t5, t6, t7, t8, t9, t10, t11, t12, t13, t14, t15, t16, t17, t18, t19], defers := [] } ∧ (Below w3.heap.size w3 ww) ∧ (L 0 = true → t5 = .agg #[.slice A n c, .slice R m d]) ∧ (L 1 = true → t6 = .bool false) ∧ (L 2 = true → t7 = .bool false) ∧ (L 3 = true → True) ∧ (L 4 = true → True) ∧ (L 5 = true → t10 = .bool false) ∧ (L 6 = true → t11 = .bool false) ∧ (L 7 = true → True) ∧ (L 8 = true → True) ∧ (L 9 = true → True) ∧ (L 10 = true → True) ∧ (L 11 = true → True) ∧ (L 12 = true → True) ∧ (L 13 = true → True) ∧ (L 14 = true → t19 = .bool false) ∧ (L 15 = true → t4 = .bool false)) ?h0 ?hstep ?hdone
    case h0 => exact ⟨_, _, _, _, _, _, _, _, _, _, _, _, _, _, _, _, rfl, (Below.refl _ _).drew, (fun h => absurd h Bool.false_ne_true), (fun h => absurd h Bool.false_ne_true), (fun h => absurd h Bool.false_ne_true), (fun h => absurd h Bool.false_ne_true), (fun h => absurd h Bool.false_ne_true), (fun h => absurd h Bool.false_ne_true), (fun h => absurd h Bool.false_ne_true), (fun h => absurd h Bool.false_ne_true), (fun h => absurd h Bool.false_ne_true), (fun h => absurd h Bool.false_ne_true), (fun h => absurd h Bool.false_ne_true), (fun h => absurd h Bool.false_ne_true), (fun h => absurd h Bool.false_ne_true), (fun h => absurd h Bool.false_ne_true), (fun h => absurd h Bool.false_ne_true), (fun h => absurd h Bool.false_ne_true)⟩
    case hstep =>
      rintro L ac ww i o ho hL hd ⟨t4, t5, t6, t7, t8, t9, t10, t11, t12, t13, t14, t15, t16, t17, t18, t19, rfl, I0, f0, f1, f2, f3, f4, f5, f6, f7, f8, f9, f10, f11, f12, f13, f14, f15⟩
      have hi : i < 16 := (Array.getElem?_eq_some_iff.1 ho).1
      obtain rfl | rfl | rfl | rfl | rfl | rfl | rfl | rfl | rfl | rfl | rfl | rfl | rfl | rfl | rfl | rfl : i = 0 ∨ i = 1 ∨ i = 2 ∨ i = 3 ∨ i = 4 ∨ i = 5 ∨ i = 6 ∨ i = 7 ∨ i = 8 ∨ i = 9 ∨ i = 10 ∨ i = 11 ∨ i = 12 ∨ i = 13 ∨ i = 14 ∨ i = 15 := by omega
      · obtain rfl := Option.some.inj ho
        have z0 : ww.cell? ⟨w.heap.size, 0, none⟩ = some (.slice A n c) := (I0.cell (p := ⟨w.heap.size, 0, none⟩) hpl).trans x0
        have z1 : ww.cell? ⟨w.heap.size, 1, none⟩ = some (.slice R m d) := (I0.cell (p := ⟨w.heap.size, 1, none⟩) hpl).trans x1
        refine wpOp_step rfl (fun K' hK => ?_)
        go_simp
        refine hK _ _ ?_
        exact ⟨_, _, _, _, _, _, _, _, _, _, _, _, _, _, _, _, rfl, (I0), (fun _ => rfl), (kp f1), (kp f2), (kp f3), (kp f4), (kp f5), (kp f6), (kp f7), (kp f8), (kp f9), (kp f10), (kp f11), (kp f12), (kp f13), (kp f14), (kp f15)⟩
      · obtain rfl := Option.some.inj ho
        have g0 := f0 (hd ⟨0, .data⟩ (by simp) rfl)
        subst g0
        refine wpOp_step rfl (fun K' hK => ?_)
        go_simp
        refine (heapValid_any _ _ _ _ _ _ a ww (r0.up I0) hn hm hc hmd).mono ?_
        rw [HVA.out]
        rintro e w' ⟨rfl, b5⟩
        refine hK _ _ ?_
        exact ⟨_, _, _, _, _, _, _, _, _, _, _, _, _, _, _, _, rfl, (I0.trans (b5.mono I0.size)), (kp f0), (fun _ => rfl), (kp f2), (kp f3), (kp f4), (kp f5), (kp f6), (kp f7), (kp f8), (kp f9), (kp f10), (kp f11), (kp f12), (kp f13), (kp f14), (kp f15)⟩
      · obtain rfl := Option.some.inj ho
        have g1 := f1 (hd ⟨1, .data⟩ (by simp) rfl)
        subst g1
        refine wpOp_step rfl (fun K' hK => ?_)
        go_simp
        refine hK _ _ ?_
        exact ⟨_, _, _, _, _, _, _, _, _, _, _, _, _, _, _, _, rfl, (I0), (kp f0), (kp f1), (fun _ => rfl), (kp f3), (kp f4), (kp f5), (kp f6), (kp f7), (kp f8), (kp f9), (kp f10), (kp f11), (kp f12), (kp f13), (kp f14), (kp f15)⟩
      · obtain rfl := Option.some.inj ho
        have g2 := f2 (hd ⟨2, .guard⟩ (by simp) rfl)
        subst g2
        refine wpOp_step rfl (fun K' hK => ?_)
        go_simp
        refine hK _ _ ?_
        exact ⟨_, _, _, _, _, _, _, _, _, _, _, _, _, _, _, _, rfl, (I0), (kp f0), (kp f1), (kp f2), (fun _ => trivial), (kp f4), (kp f5), (kp f6), (kp f7), (kp f8), (kp f9), (kp f10), (kp f11), (kp f12), (kp f13), (kp f14), (kp f15)⟩
      · obtain rfl := Option.some.inj ho
        have g2 := f2 (hd ⟨2, .guard⟩ (by simp) rfl)
        subst g2
        refine wpOp_step rfl (fun K' hK => ?_)
        go_simp
        refine hK _ _ ?_
        exact ⟨_, _, _, _, _, _, _, _, _, _, _, _, _, _, _, _, rfl, (I0), (kp f0), (kp f1), (kp f2), (kp f3), (fun _ => trivial), (kp f5), (kp f6), (kp f7), (kp f8), (kp f9), (kp f10), (kp f11), (kp f12), (kp f13), (kp f14), (kp f15)⟩
      · obtain rfl := Option.some.inj ho
        have g2 := f2 (hd ⟨2, .data⟩ (by simp) rfl)
        subst g2
        refine wpOp_step rfl (fun K' hK => ?_)
        go_simp
        refine hK _ _ ?_
        exact ⟨_, _, _, _, _, _, _, _, _, _, _, _, _, _, _, _, rfl, (I0), (kp f0), (kp f1), (kp f2), (kp f3), (kp f4), (fun _ => rfl), (kp f6), (kp f7), (kp f8), (kp f9), (kp f10), (kp f11), (kp f12), (kp f13), (kp f14), (kp f15)⟩
      · obtain rfl := Option.some.inj ho
        have g5 := f5 (hd ⟨5, .data⟩ (by simp) rfl)
        subst g5
        refine wpOp_step rfl (fun K' hK => ?_)
        go_simp
        refine hK _ _ ?_
        exact ⟨_, _, _, _, _, _, _, _, _, _, _, _, _, _, _, _, rfl, (I0), (kp f0), (kp f1), (kp f2), (kp f3), (kp f4), (kp f5), (fun _ => rfl), (kp f7), (kp f8), (kp f9), (kp f10), (kp f11), (kp f12), (kp f13), (kp f14), (kp f15)⟩
      · obtain rfl := Option.some.inj ho
        have g6 := f6 (hd ⟨6, .guard⟩ (by simp) rfl)
        subst g6
        refine wpOp_step rfl (fun K' hK => ?_)
        go_simp
        refine hK _ _ ?_
        exact ⟨_, _, _, _, _, _, _, _, _, _, _, _, _, _, _, _, rfl, (I0), (kp f0), (kp f1), (kp f2), (kp f3), (kp f4), (kp f5), (kp f6), (fun _ => trivial), (kp f8), (kp f9), (kp f10), (kp f11), (kp f12), (kp f13), (kp f14), (kp f15)⟩
      · obtain rfl := Option.some.inj ho
        have g6 := f6 (hd ⟨6, .guard⟩ (by simp) rfl)
        subst g6
        refine wpOp_step rfl (fun K' hK => ?_)
        go_simp
        refine hK _ _ ?_
        exact ⟨_, _, _, _, _, _, _, _, _, _, _, _, _, _, _, _, rfl, (I0), (kp f0), (kp f1), (kp f2), (kp f3), (kp f4), (kp f5), (kp f6), (kp f7), (fun _ => trivial), (kp f9), (kp f10), (kp f11), (kp f12), (kp f13), (kp f14), (kp f15)⟩
      · obtain rfl := Option.some.inj ho
        have g6 := f6 (hd ⟨6, .guard⟩ (by simp) rfl)
        subst g6
        refine wpOp_step rfl (fun K' hK => ?_)
        go_simp
        refine hK _ _ ?_
        exact ⟨_, _, _, _, _, _, _, _, _, _, _, _, _, _, _, _, rfl, (I0), (kp f0), (kp f1), (kp f2), (kp f3), (kp f4), (kp f5), (kp f6), (kp f7), (kp f8), (fun _ => trivial), (kp f10), (kp f11), (kp f12), (kp f13), (kp f14), (kp f15)⟩
      · obtain rfl := Option.some.inj ho
        have g6 := f6 (hd ⟨6, .guard⟩ (by simp) rfl)
        subst g6
        refine wpOp_step rfl (fun K' hK => ?_)
        go_simp
        refine hK _ _ ?_
        exact ⟨_, _, _, _, _, _, _, _, _, _, _, _, _, _, _, _, rfl, (I0), (kp f0), (kp f1), (kp f2), (kp f3), (kp f4), (kp f5), (kp f6), (kp f7), (kp f8), (kp f9), (fun _ => trivial), (kp f11), (kp f12), (kp f13), (kp f14), (kp f15)⟩
      · obtain rfl := Option.some.inj ho
        have g6 := f6 (hd ⟨6, .guard⟩ (by simp) rfl)
        subst g6
        refine wpOp_step rfl (fun K' hK => ?_)
        go_simp
        refine hK _ _ ?_
        exact ⟨_, _, _, _, _, _, _, _, _, _, _, _, _, _, _, _, rfl, (I0), (kp f0), (kp f1), (kp f2), (kp f3), (kp f4), (kp f5), (kp f6), (kp f7), (kp f8), (kp f9), (kp f10), (fun _ => trivial), (kp f12), (kp f13), (kp f14), (kp f15)⟩
      · obtain rfl := Option.some.inj ho
        have g6 := f6 (hd ⟨6, .guard⟩ (by simp) rfl)
        subst g6
        refine wpOp_step rfl (fun K' hK => ?_)
        go_simp
        refine hK _ _ ?_
        exact ⟨_, _, _, _, _, _, _, _, _, _, _, _, _, _, _, _, rfl, (I0), (kp f0), (kp f1), (kp f2), (kp f3), (kp f4), (kp f5), (kp f6), (kp f7), (kp f8), (kp f9), (kp f10), (kp f11), (fun _ => trivial), (kp f13), (kp f14), (kp f15)⟩
      · obtain rfl := Option.some.inj ho
        have g6 := f6 (hd ⟨6, .guard⟩ (by simp) rfl)
        subst g6
        refine wpOp_step rfl (fun K' hK => ?_)
        go_simp
        refine hK _ _ ?_
        exact ⟨_, _, _, _, _, _, _, _, _, _, _, _, _, _, _, _, rfl, (I0), (kp f0), (kp f1), (kp f2), (kp f3), (kp f4), (kp f5), (kp f6), (kp f7), (kp f8), (kp f9), (kp f10), (kp f11), (kp f12), (fun _ => trivial), (kp f14), (kp f15)⟩
      · obtain rfl := Option.some.inj ho
        have g6 := f6 (hd ⟨6, .data⟩ (by simp) rfl)
        subst g6
        refine wpOp_step rfl (fun K' hK => ?_)
        go_simp
        refine hK _ _ ?_
        exact ⟨_, _, _, _, _, _, _, _, _, _, _, _, _, _, _, _, rfl, (I0), (kp f0), (kp f1), (kp f2), (kp f3), (kp f4), (kp f5), (kp f6), (kp f7), (kp f8), (kp f9), (kp f10), (kp f11), (kp f12), (kp f13), (fun _ => rfl), (kp f15)⟩
      · obtain rfl := Option.some.inj ho
        have g14 := f14 (hd ⟨14, .data⟩ (by simp) rfl)
        subst g14
        refine wpOp_step rfl (fun K' hK => ?_)
        go_simp
        refine hK _ _ ?_
        exact ⟨_, _, _, _, _, _, _, _, _, _, _, _, _, _, _, _, rfl, (I0), (kp f0), (kp f1), (kp f2), (kp f3), (kp f4), (kp f5), (kp f6), (kp f7), (kp f8), (kp f9), (kp f10), (kp f11), (kp f12), (kp f13), (kp f14), (fun _ => rfl)⟩
    case hdone =>
      rintro L ac ww hall ⟨t4, t5, t6, t7, t8, t9, t10, t11, t12, t13, t14, t15, t16, t17, t18, t19, rfl, I0, f0, f1, f2, f3, f4, f5, f6, f7, f8, f9, f10, f11, f12, f13, f14, f15⟩
      have e0 := f0 (hall 0 (by decide))
      have e1 := f1 (hall 1 (by decide))
      have e2 := f2 (hall 2 (by decide))
      have e3 := f3 (hall 3 (by decide))
      have e4 := f4 (hall 4 (by decide))
      have e5 := f5 (hall 5 (by decide))
      have e6 := f6 (hall 6 (by decide))
      have e7 := f7 (hall 7 (by decide))
      have e8 := f8 (hall 8 (by decide))
      have e9 := f9 (hall 9 (by decide))
      have e10 := f10 (hall 10 (by decide))
      have e11 := f11 (hall 11 (by decide))
      have e12 := f12 (hall 12 (by decide))
      have e13 := f13 (hall 13 (by decide))
      have e14 := f14 (hall 14 (by decide))
      have e15 := f15 (hall 15 (by decide))
      clear f0 f1 f2 f3 f4 f5 f6 f7 f8 f9 f10 f11 f12 f13 f14 f15
      subst e15
      have bbf := b0.trans (I0.mono b0.size)
      clear e0 e1 e2 e3 e4 e5 e6 e7 e8 e9 e10 e11 e12 e13 e14
      go_wp2_with fail
      go_ret
      exact ⟨by rw [HSV.out]; rfl, bbf⟩
  · have HSV := Lib.hid (show Hps.sameV a b = false from by rw [Hps.sameV, hva, Hps.view_not hvb, Bool.true_and]; exact decide_eq_false (fun e => by rw [Hps.view_nil.1 e] at hva; cases hva))
    have HVA := Lib.hid hva
    have HVB := Lib.hid hvb
    clear hva hvb
    go_enter Try.func26, Try.ntmps26
    go_upto_region 1 with fail
    generalize (w.alloc (.cells #[.slice A n c, .slice R m d] 26)).alloc (.cells #[.slice A' n' c', .slice R' m' d'] 26) = w3 at b0 r0 s0 p0 q0 ⊢
    have hpl := p0.lt
    have hql := q0.lt
    have x0 : w3.cell? ⟨w.heap.size, 0, none⟩ = some (.slice A n c) := p0.cell 0
    have x1 : w3.cell? ⟨w.heap.size, 1, none⟩ = some (.slice R m d) := p0.cell 1
    have y0 : w3.cell? ⟨w.heap.size + 1, 0, none⟩ = some (.slice A' n' c') := q0.cell 0
    have y1 : w3.cell? ⟨w.heap.size + 1, 1, none⟩ = some (.slice R' m' d') := q0.cell 1
    refine wp_region_inv (by kernel_rfl) (by kernel_rfl) (fun L ac ww => ∃ t4 t5 t6 t7 t8 t9 t10 t11 t12 t13 t14 t15 t16 t17 t18 t19 : Value, ac = { tmps := #[heapV A n c R m d, heapV A' n' c' R' m' d', Value.pointer (some { block := w.heap.size, off := 0 }), Value.pointer (some { block := w.heap.size + 1, off := 0 }), t4, t5, t6, t7, t8, t9, t10, t11, t12, t13, t14, t15, t16, t17, t18, t19], defers := [] } ∧ (Below w3.heap.size w3 ww) ∧ (L 0 = true → t5 = .agg #[.slice A n c, .slice R m d]) ∧ (L 1 = true → t6 = .bool true) ∧ (L 2 = true → t7 = .bool true) ∧ (L 3 = true → t8 = .agg #[.slice A' n' c', .slice R' m' d']) ∧ (L 4 = true → t9 = .bool false) ∧ (L 5 = true → t10 = .bool false) ∧ (L 6 = true → t11 = .bool false) ∧ (L 7 = true → True) ∧ (L 8 = true → True) ∧ (L 9 = true → True) ∧ (L 10 = true → True) ∧ (L 11 = true → True) ∧ (L 12 = true → True) ∧ (L 13 = true → True) ∧ (L 14 = true → t19 = .bool false) ∧ (L 15 = true → t4 = .bool false)) ?h0 ?hstep ?hdone
    case h0 => exact ⟨_, _, _, _, _, _, _, _, _, _, _, _, _, _, _, _, rfl, (Below.refl _ _).drew, (fun h => absurd h Bool.false_ne_true), (fun h => absurd h Bool.false_ne_true), (fun h => absurd h Bool.false_ne_true), (fun h => absurd h Bool.false_ne_true), (fun h => absurd h Bool.false_ne_true), (fun h => absurd h Bool.false_ne_true), (fun h => absurd h Bool.false_ne_true), (fun h => absurd h Bool.false_ne_true), (fun h => absurd h Bool.false_ne_true), (fun h => absurd h Bool.false_ne_true), (fun h => absurd h Bool.false_ne_true), (fun h => absurd h Bool.false_ne_true), (fun h => absurd h Bool.false_ne_true), (fun h => absurd h Bool.false_ne_true), (fun h => absurd h Bool.false_ne_true), (fun h => absurd h Bool.false_ne_true)⟩
    case hstep =>
      rintro L ac ww i o ho hL hd ⟨t4, t5, t6, t7, t8, t9, t10, t11, t12, t13, t14, t15, t16, t17, t18, t19, rfl, I0, f0, f1, f2, f3, f4, f5, f6, f7, f8, f9, f10, f11, f12, f13, f14, f15⟩
      have hi : i < 16 := (Array.getElem?_eq_some_iff.1 ho).1
      obtain rfl | rfl | rfl | rfl | rfl | rfl | rfl | rfl | rfl | rfl | rfl | rfl | rfl | rfl | rfl | rfl : i = 0 ∨ i = 1 ∨ i = 2 ∨ i = 3 ∨ i = 4 ∨ i = 5 ∨ i = 6 ∨ i = 7 ∨ i = 8 ∨ i = 9 ∨ i = 10 ∨ i = 11 ∨ i = 12 ∨ i = 13 ∨ i = 14 ∨ i = 15 := by omega
      · obtain rfl := Option.some.inj ho
        have z0 : ww.cell? ⟨w.heap.size, 0, none⟩ = some (.slice A n c) := (I0.cell (p := ⟨w.heap.size, 0, none⟩) hpl).trans x0
        have z1 : ww.cell? ⟨w.heap.size, 1, none⟩ = some (.slice R m d) := (I0.cell (p := ⟨w.heap.size, 1, none⟩) hpl).trans x1
        refine wpOp_step rfl (fun K' hK => ?_)
        go_simp
        refine hK _ _ ?_
        exact ⟨_, _, _, _, _, _, _, _, _, _, _, _, _, _, _, _, rfl, (I0), (fun _ => rfl), (kp f1), (kp f2), (kp f3), (kp f4), (kp f5), (kp f6), (kp f7), (kp f8), (kp f9), (kp f10), (kp f11), (kp f12), (kp f13), (kp f14), (kp f15)⟩
      · obtain rfl := Option.some.inj ho
        have g0 := f0 (hd ⟨0, .data⟩ (by simp) rfl)
        subst g0
        refine wpOp_step rfl (fun K' hK => ?_)
        go_simp
        refine (heapValid_any _ _ _ _ _ _ a ww (r0.up I0) hn hm hc hmd).mono ?_
        rw [HVA.out]
        rintro e w' ⟨rfl, b5⟩
        refine hK _ _ ?_
        exact ⟨_, _, _, _, _, _, _, _, _, _, _, _, _, _, _, _, rfl, (I0.trans (b5.mono I0.size)), (kp f0), (fun _ => rfl), (kp f2), (kp f3), (kp f4), (kp f5), (kp f6), (kp f7), (kp f8), (kp f9), (kp f10), (kp f11), (kp f12), (kp f13), (kp f14), (kp f15)⟩
      · obtain rfl := Option.some.inj ho
        have g1 := f1 (hd ⟨1, .data⟩ (by simp) rfl)
        subst g1
        refine wpOp_step rfl (fun K' hK => ?_)
        go_simp
        refine hK _ _ ?_
        exact ⟨_, _, _, _, _, _, _, _, _, _, _, _, _, _, _, _, rfl, (I0), (kp f0), (kp f1), (fun _ => rfl), (kp f3), (kp f4), (kp f5), (kp f6), (kp f7), (kp f8), (kp f9), (kp f10), (kp f11), (kp f12), (kp f13), (kp f14), (kp f15)⟩
      · obtain rfl := Option.some.inj ho
        have g2 := f2 (hd ⟨2, .guard⟩ (by simp) rfl)
        subst g2
        have z0 : ww.cell? ⟨w.heap.size + 1, 0, none⟩ = some (.slice A' n' c') := (I0.cell (p := ⟨w.heap.size + 1, 0, none⟩) hql).trans y0
        have z1 : ww.cell? ⟨w.heap.size + 1, 1, none⟩ = some (.slice R' m' d') := (I0.cell (p := ⟨w.heap.size + 1, 1, none⟩) hql).trans y1
        refine wpOp_step rfl (fun K' hK => ?_)
        go_simp
        refine hK _ _ ?_
        exact ⟨_, _, _, _, _, _, _, _, _, _, _, _, _, _, _, _, rfl, (I0), (kp f0), (kp f1), (kp f2), (fun _ => rfl), (kp f4), (kp f5), (kp f6), (kp f7), (kp f8), (kp f9), (kp f10), (kp f11), (kp f12), (kp f13), (kp f14), (kp f15)⟩
      · obtain rfl := Option.some.inj ho
        have g3 := f3 (hd ⟨3, .data⟩ (by simp) rfl)
        subst g3
        have g2 := f2 (hd ⟨2, .guard⟩ (by simp) rfl)
        subst g2
        refine wpOp_step rfl (fun K' hK => ?_)
        go_simp
        refine (heapValid_any _ _ _ _ _ _ b ww (s0.up I0) hn' hm' hc' hd').mono ?_
        rw [HVB.out]
        rintro e w' ⟨rfl, b5⟩
        refine hK _ _ ?_
        exact ⟨_, _, _, _, _, _, _, _, _, _, _, _, _, _, _, _, rfl, (I0.trans (b5.mono I0.size)), (kp f0), (kp f1), (kp f2), (kp f3), (fun _ => rfl), (kp f5), (kp f6), (kp f7), (kp f8), (kp f9), (kp f10), (kp f11), (kp f12), (kp f13), (kp f14), (kp f15)⟩
      · obtain rfl := Option.some.inj ho
        have g2 := f2 (hd ⟨2, .data⟩ (by simp) rfl)
        have g4 := f4 (hd ⟨4, .data⟩ (by simp) rfl)
        subst g2
        subst g4
        refine wpOp_step rfl (fun K' hK => ?_)
        go_simp
        refine hK _ _ ?_
        exact ⟨_, _, _, _, _, _, _, _, _, _, _, _, _, _, _, _, rfl, (I0), (kp f0), (kp f1), (kp f2), (kp f3), (kp f4), (fun _ => rfl), (kp f6), (kp f7), (kp f8), (kp f9), (kp f10), (kp f11), (kp f12), (kp f13), (kp f14), (kp f15)⟩
      · obtain rfl := Option.some.inj ho
        have g5 := f5 (hd ⟨5, .data⟩ (by simp) rfl)
        subst g5
        refine wpOp_step rfl (fun K' hK => ?_)
        go_simp
        refine hK _ _ ?_
        exact ⟨_, _, _, _, _, _, _, _, _, _, _, _, _, _, _, _, rfl, (I0), (kp f0), (kp f1), (kp f2), (kp f3), (kp f4), (kp f5), (fun _ => rfl), (kp f7), (kp f8), (kp f9), (kp f10), (kp f11), (kp f12), (kp f13), (kp f14), (kp f15)⟩
      · obtain rfl := Option.some.inj ho
        have g6 := f6 (hd ⟨6, .guard⟩ (by simp) rfl)
        subst g6
        refine wpOp_step rfl (fun K' hK => ?_)
        go_simp
        refine hK _ _ ?_
        exact ⟨_, _, _, _, _, _, _, _, _, _, _, _, _, _, _, _, rfl, (I0), (kp f0), (kp f1), (kp f2), (kp f3), (kp f4), (kp f5), (kp f6), (fun _ => trivial), (kp f8), (kp f9), (kp f10), (kp f11), (kp f12), (kp f13), (kp f14), (kp f15)⟩
      · obtain rfl := Option.some.inj ho
        have g6 := f6 (hd ⟨6, .guard⟩ (by simp) rfl)
        subst g6
        refine wpOp_step rfl (fun K' hK => ?_)
        go_simp
        refine hK _ _ ?_
        exact ⟨_, _, _, _, _, _, _, _, _, _, _, _, _, _, _, _, rfl, (I0), (kp f0), (kp f1), (kp f2), (kp f3), (kp f4), (kp f5), (kp f6), (kp f7), (fun _ => trivial), (kp f9), (kp f10), (kp f11), (kp f12), (kp f13), (kp f14), (kp f15)⟩
      · obtain rfl := Option.some.inj ho
        have g6 := f6 (hd ⟨6, .guard⟩ (by simp) rfl)
        subst g6
        refine wpOp_step rfl (fun K' hK => ?_)
        go_simp
        refine hK _ _ ?_
        exact ⟨_, _, _, _, _, _, _, _, _, _, _, _, _, _, _, _, rfl, (I0), (kp f0), (kp f1), (kp f2), (kp f3), (kp f4), (kp f5), (kp f6), (kp f7), (kp f8), (fun _ => trivial), (kp f10), (kp f11), (kp f12), (kp f13), (kp f14), (kp f15)⟩
      · obtain rfl := Option.some.inj ho
        have g6 := f6 (hd ⟨6, .guard⟩ (by simp) rfl)
        subst g6
        refine wpOp_step rfl (fun K' hK => ?_)
        go_simp
        refine hK _ _ ?_
        exact ⟨_, _, _, _, _, _, _, _, _, _, _, _, _, _, _, _, rfl, (I0), (kp f0), (kp f1), (kp f2), (kp f3), (kp f4), (kp f5), (kp f6), (kp f7), (kp f8), (kp f9), (fun _ => trivial), (kp f11), (kp f12), (kp f13), (kp f14), (kp f15)⟩
      · obtain rfl := Option.some.inj ho
        have g6 := f6 (hd ⟨6, .guard⟩ (by simp) rfl)
        subst g6
        refine wpOp_step rfl (fun K' hK => ?_)
        go_simp
        refine hK _ _ ?_
        exact ⟨_, _, _, _, _, _, _, _, _, _, _, _, _, _, _, _, rfl, (I0), (kp f0), (kp f1), (kp f2), (kp f3), (kp f4), (kp f5), (kp f6), (kp f7), (kp f8), (kp f9), (kp f10), (fun _ => trivial), (kp f12), (kp f13), (kp f14), (kp f15)⟩
      · obtain rfl := Option.some.inj ho
        have g6 := f6 (hd ⟨6, .guard⟩ (by simp) rfl)
        subst g6
        refine wpOp_step rfl (fun K' hK => ?_)
        go_simp
        refine hK _ _ ?_
        exact ⟨_, _, _, _, _, _, _, _, _, _, _, _, _, _, _, _, rfl, (I0), (kp f0), (kp f1), (kp f2), (kp f3), (kp f4), (kp f5), (kp f6), (kp f7), (kp f8), (kp f9), (kp f10), (kp f11), (fun _ => trivial), (kp f13), (kp f14), (kp f15)⟩
      · obtain rfl := Option.some.inj ho
        have g6 := f6 (hd ⟨6, .guard⟩ (by simp) rfl)
        subst g6
        refine wpOp_step rfl (fun K' hK => ?_)
        go_simp
        refine hK _ _ ?_
        exact ⟨_, _, _, _, _, _, _, _, _, _, _, _, _, _, _, _, rfl, (I0), (kp f0), (kp f1), (kp f2), (kp f3), (kp f4), (kp f5), (kp f6), (kp f7), (kp f8), (kp f9), (kp f10), (kp f11), (kp f12), (fun _ => trivial), (kp f14), (kp f15)⟩
      · obtain rfl := Option.some.inj ho
        have g6 := f6 (hd ⟨6, .data⟩ (by simp) rfl)
        subst g6
        refine wpOp_step rfl (fun K' hK => ?_)
        go_simp
        refine hK _ _ ?_
        exact ⟨_, _, _, _, _, _, _, _, _, _, _, _, _, _, _, _, rfl, (I0), (kp f0), (kp f1), (kp f2), (kp f3), (kp f4), (kp f5), (kp f6), (kp f7), (kp f8), (kp f9), (kp f10), (kp f11), (kp f12), (kp f13), (fun _ => rfl), (kp f15)⟩
      · obtain rfl := Option.some.inj ho
        have g14 := f14 (hd ⟨14, .data⟩ (by simp) rfl)
        subst g14
        refine wpOp_step rfl (fun K' hK => ?_)
        go_simp
        refine hK _ _ ?_
        exact ⟨_, _, _, _, _, _, _, _, _, _, _, _, _, _, _, _, rfl, (I0), (kp f0), (kp f1), (kp f2), (kp f3), (kp f4), (kp f5), (kp f6), (kp f7), (kp f8), (kp f9), (kp f10), (kp f11), (kp f12), (kp f13), (kp f14), (fun _ => rfl)⟩
    case hdone =>
      rintro L ac ww hall ⟨t4, t5, t6, t7, t8, t9, t10, t11, t12, t13, t14, t15, t16, t17, t18, t19, rfl, I0, f0, f1, f2, f3, f4, f5, f6, f7, f8, f9, f10, f11, f12, f13, f14, f15⟩
      have e0 := f0 (hall 0 (by decide))
      have e1 := f1 (hall 1 (by decide))
      have e2 := f2 (hall 2 (by decide))
      have e3 := f3 (hall 3 (by decide))
      have e4 := f4 (hall 4 (by decide))
      have e5 := f5 (hall 5 (by decide))
      have e6 := f6 (hall 6 (by decide))
      have e7 := f7 (hall 7 (by decide))
      have e8 := f8 (hall 8 (by decide))
      have e9 := f9 (hall 9 (by decide))
      have e10 := f10 (hall 10 (by decide))
      have e11 := f11 (hall 11 (by decide))
      have e12 := f12 (hall 12 (by decide))
      have e13 := f13 (hall 13 (by decide))
      have e14 := f14 (hall 14 (by decide))
      have e15 := f15 (hall 15 (by decide))
      clear f0 f1 f2 f3 f4 f5 f6 f7 f8 f9 f10 f11 f12 f13 f14 f15
      subst e15
      have bbf := b0.trans (I0.mono b0.size)
      clear e0 e1 e2 e3 e4 e5 e6 e7 e8 e9 e10 e11 e12 e13 e14
      go_wp2_with fail
      go_ret
      exact ⟨by rw [HSV.out]; rfl, bbf⟩
  · have HSV := Lib.hid (show Hps.sameV a b = decide (Hps.viewH a = Hps.viewH b) from by rw [Hps.sameV, hva, Bool.true_and])
    have HVA := Lib.hid hva
    have HVB := Lib.hid hvb
    clear hva hvb
    go_enter Try.func26, Try.ntmps26
    go_upto_region 1 with fail
    generalize (w.alloc (.cells #[.slice A n c, .slice R m d] 26)).alloc (.cells #[.slice A' n' c', .slice R' m' d'] 26) = w3 at b0 r0 s0 p0 q0 ⊢
    have hpl := p0.lt
    have hql := q0.lt
    have x0 : w3.cell? ⟨w.heap.size, 0, none⟩ = some (.slice A n c) := p0.cell 0
    have x1 : w3.cell? ⟨w.heap.size, 1, none⟩ = some (.slice R m d) := p0.cell 1
    have y0 : w3.cell? ⟨w.heap.size + 1, 0, none⟩ = some (.slice A' n' c') := q0.cell 0
    have y1 : w3.cell? ⟨w.heap.size + 1, 1, none⟩ = some (.slice R' m' d') := q0.cell 1
    refine wp_region_inv (by kernel_rfl) (by kernel_rfl) (fun L ac ww => ∃ t4 t5 t6 t7 t8 t9 t10 t11 t12 t13 t14 t15 t16 t17 t18 t19 : Value, ac = { tmps := #[heapV A n c R m d, heapV A' n' c' R' m' d', Value.pointer (some { block := w.heap.size, off := 0 }), Value.pointer (some { block := w.heap.size + 1, off := 0 }), t4, t5, t6, t7, t8, t9, t10, t11, t12, t13, t14, t15, t16, t17, t18, t19], defers := [] } ∧ (Below w3.heap.size w3 ww) ∧ (L 0 = true → t5 = .agg #[.slice A n c, .slice R m d]) ∧ (L 1 = true → t6 = .bool true) ∧ (L 2 = true → t7 = .bool true) ∧ (L 3 = true → t8 = .agg #[.slice A' n' c', .slice R' m' d']) ∧ (L 4 = true → t9 = .bool true) ∧ (L 5 = true → t10 = .bool true) ∧ (L 6 = true → t11 = .bool true) ∧ (L 7 = true → t12 = .agg #[.slice A n c, .slice R m d]) ∧ (L 8 = true → ∃ (A1 : Option Addr) (n1 c1 : Nat) (A2 : Option Addr) (n2 c2 : Nat) (A3 : Option Addr) (n3 c3 : Nat), t13 = .agg #[.slice A1 n1 c1, .slice A2 n2 c2, .slice A3 n3 c3] ∧ IS ww ww.heap.size A3 n3 (Hps.viewH a)) ∧ (L 9 = true → ∃ (A3 : Option Addr) (n3 c3 : Nat), t14 = .slice A3 n3 c3 ∧ IS ww ww.heap.size A3 n3 (Hps.viewH a)) ∧ (L 10 = true → t15 = .agg #[.slice A' n' c', .slice R' m' d']) ∧ (L 11 = true → ∃ (A1 : Option Addr) (n1 c1 : Nat) (A2 : Option Addr) (n2 c2 : Nat) (A3 : Option Addr) (n3 c3 : Nat), t16 = .agg #[.slice A1 n1 c1, .slice A2 n2 c2, .slice A3 n3 c3] ∧ IS ww ww.heap.size A3 n3 (Hps.viewH b)) ∧ (L 12 = true → ∃ (A3 : Option Addr) (n3 c3 : Nat), t17 = .slice A3 n3 c3 ∧ IS ww ww.heap.size A3 n3 (Hps.viewH b)) ∧ (L 13 = true → t18 = .bool (decide (Hps.viewH a = Hps.viewH b))) ∧ (L 14 = true → t19 = .bool (decide (Hps.viewH a = Hps.viewH b))) ∧ (L 15 = true → t4 = .bool (decide (Hps.viewH a = Hps.viewH b)))) ?h0 ?hstep ?hdone
    case h0 => exact ⟨_, _, _, _, _, _, _, _, _, _, _, _, _, _, _, _, rfl, (Below.refl _ _).drew, (fun h => absurd h Bool.false_ne_true), (fun h => absurd h Bool.false_ne_true), (fun h => absurd h Bool.false_ne_true), (fun h => absurd h Bool.false_ne_true), (fun h => absurd h Bool.false_ne_true), (fun h => absurd h Bool.false_ne_true), (fun h => absurd h Bool.false_ne_true), (fun h => absurd h Bool.false_ne_true), (fun h => absurd h Bool.false_ne_true), (fun h => absurd h Bool.false_ne_true), (fun h => absurd h Bool.false_ne_true), (fun h => absurd h Bool.false_ne_true), (fun h => absurd h Bool.false_ne_true), (fun h => absurd h Bool.false_ne_true), (fun h => absurd h Bool.false_ne_true), (fun h => absurd h Bool.false_ne_true)⟩
    case hstep =>
      rintro L ac ww i o ho hL hd ⟨t4, t5, t6, t7, t8, t9, t10, t11, t12, t13, t14, t15, t16, t17, t18, t19, rfl, I0, f0, f1, f2, f3, f4, f5, f6, f7, f8, f9, f10, f11, f12, f13, f14, f15⟩
      have hi : i < 16 := (Array.getElem?_eq_some_iff.1 ho).1
      obtain rfl | rfl | rfl | rfl | rfl | rfl | rfl | rfl | rfl | rfl | rfl | rfl | rfl | rfl | rfl | rfl : i = 0 ∨ i = 1 ∨ i = 2 ∨ i = 3 ∨ i = 4 ∨ i = 5 ∨ i = 6 ∨ i = 7 ∨ i = 8 ∨ i = 9 ∨ i = 10 ∨ i = 11 ∨ i = 12 ∨ i = 13 ∨ i = 14 ∨ i = 15 := by omega
      · obtain rfl := Option.some.inj ho
        have z0 : ww.cell? ⟨w.heap.size, 0, none⟩ = some (.slice A n c) := (I0.cell (p := ⟨w.heap.size, 0, none⟩) hpl).trans x0
        have z1 : ww.cell? ⟨w.heap.size, 1, none⟩ = some (.slice R m d) := (I0.cell (p := ⟨w.heap.size, 1, none⟩) hpl).trans x1
        refine wpOp_step rfl (fun K' hK => ?_)
        go_simp
        refine hK _ _ ?_
        exact ⟨_, _, _, _, _, _, _, _, _, _, _, _, _, _, _, _, rfl, (I0), (fun _ => rfl), (kp f1), (kp f2), (kp f3), (kp f4), (kp f5), (kp f6), (kp f7), (kp f8), (kp f9), (kp f10), (kp f11), (kp f12), (kp f13), (kp f14), (kp f15)⟩
      · obtain rfl := Option.some.inj ho
        have g0 := f0 (hd ⟨0, .data⟩ (by simp) rfl)
        subst g0
        refine wpOp_step rfl (fun K' hK => ?_)
        go_simp
        refine (heapValid_any _ _ _ _ _ _ a ww (r0.up I0) hn hm hc hmd).mono ?_
        rw [HVA.out]
        rintro e w' ⟨rfl, b5⟩
        refine hK _ _ ?_
        exact ⟨_, _, _, _, _, _, _, _, _, _, _, _, _, _, _, _, rfl, (I0.trans (b5.mono I0.size)), (kp f0), (fun _ => rfl), (kp f2), (kp f3), (kp f4), (kp f5), (kp f6), (kp f7), (fun h => by
          obtain ⟨u0, u1, u2, u3, u4, u5, u6, u7, u8, e, r⟩ := f8 (upd_ne h (by decide))
          exact ⟨u0, u1, u2, u3, u4, u5, u6, u7, u8, e, r.up b5⟩), (fun h => by
          obtain ⟨u0, u1, u2, e, r⟩ := f9 (upd_ne h (by decide))
          exact ⟨u0, u1, u2, e, r.up b5⟩), (kp f10), (fun h => by
          obtain ⟨u0, u1, u2, u3, u4, u5, u6, u7, u8, e, r⟩ := f11 (upd_ne h (by decide))
          exact ⟨u0, u1, u2, u3, u4, u5, u6, u7, u8, e, r.up b5⟩), (fun h => by
          obtain ⟨u0, u1, u2, e, r⟩ := f12 (upd_ne h (by decide))
          exact ⟨u0, u1, u2, e, r.up b5⟩), (kp f13), (kp f14), (kp f15)⟩
      · obtain rfl := Option.some.inj ho
        have g1 := f1 (hd ⟨1, .data⟩ (by simp) rfl)
        subst g1
        refine wpOp_step rfl (fun K' hK => ?_)
        go_simp
        refine hK _ _ ?_
        exact ⟨_, _, _, _, _, _, _, _, _, _, _, _, _, _, _, _, rfl, (I0), (kp f0), (kp f1), (fun _ => rfl), (kp f3), (kp f4), (kp f5), (kp f6), (kp f7), (kp f8), (kp f9), (kp f10), (kp f11), (kp f12), (kp f13), (kp f14), (kp f15)⟩
      · obtain rfl := Option.some.inj ho
        have g2 := f2 (hd ⟨2, .guard⟩ (by simp) rfl)
        subst g2
        have z0 : ww.cell? ⟨w.heap.size + 1, 0, none⟩ = some (.slice A' n' c') := (I0.cell (p := ⟨w.heap.size + 1, 0, none⟩) hql).trans y0
        have z1 : ww.cell? ⟨w.heap.size + 1, 1, none⟩ = some (.slice R' m' d') := (I0.cell (p := ⟨w.heap.size + 1, 1, none⟩) hql).trans y1
        refine wpOp_step rfl (fun K' hK => ?_)
        go_simp
        refine hK _ _ ?_
        exact ⟨_, _, _, _, _, _, _, _, _, _, _, _, _, _, _, _, rfl, (I0), (kp f0), (kp f1), (kp f2), (fun _ => rfl), (kp f4), (kp f5), (kp f6), (kp f7), (kp f8), (kp f9), (kp f10), (kp f11), (kp f12), (kp f13), (kp f14), (kp f15)⟩
      · obtain rfl := Option.some.inj ho
        have g3 := f3 (hd ⟨3, .data⟩ (by simp) rfl)
        subst g3
        have g2 := f2 (hd ⟨2, .guard⟩ (by simp) rfl)
        subst g2
        refine wpOp_step rfl (fun K' hK => ?_)
        go_simp
        refine (heapValid_any _ _ _ _ _ _ b ww (s0.up I0) hn' hm' hc' hd').mono ?_
        rw [HVB.out]
        rintro e w' ⟨rfl, b5⟩
        refine hK _ _ ?_
        exact ⟨_, _, _, _, _, _, _, _, _, _, _, _, _, _, _, _, rfl, (I0.trans (b5.mono I0.size)), (kp f0), (kp f1), (kp f2), (kp f3), (fun _ => rfl), (kp f5), (kp f6), (kp f7), (fun h => by
          obtain ⟨u0, u1, u2, u3, u4, u5, u6, u7, u8, e, r⟩ := f8 (upd_ne h (by decide))
          exact ⟨u0, u1, u2, u3, u4, u5, u6, u7, u8, e, r.up b5⟩), (fun h => by
          obtain ⟨u0, u1, u2, e, r⟩ := f9 (upd_ne h (by decide))
          exact ⟨u0, u1, u2, e, r.up b5⟩), (kp f10), (fun h => by
          obtain ⟨u0, u1, u2, u3, u4, u5, u6, u7, u8, e, r⟩ := f11 (upd_ne h (by decide))
          exact ⟨u0, u1, u2, u3, u4, u5, u6, u7, u8, e, r.up b5⟩), (fun h => by
          obtain ⟨u0, u1, u2, e, r⟩ := f12 (upd_ne h (by decide))
          exact ⟨u0, u1, u2, e, r.up b5⟩), (kp f13), (kp f14), (kp f15)⟩
      · obtain rfl := Option.some.inj ho
        have g2 := f2 (hd ⟨2, .data⟩ (by simp) rfl)
        have g4 := f4 (hd ⟨4, .data⟩ (by simp) rfl)
        subst g2
        subst g4
        refine wpOp_step rfl (fun K' hK => ?_)
        go_simp
        refine hK _ _ ?_
        exact ⟨_, _, _, _, _, _, _, _, _, _, _, _, _, _, _, _, rfl, (I0), (kp f0), (kp f1), (kp f2), (kp f3), (kp f4), (fun _ => rfl), (kp f6), (kp f7), (kp f8), (kp f9), (kp f10), (kp f11), (kp f12), (kp f13), (kp f14), (kp f15)⟩
      · obtain rfl := Option.some.inj ho
        have g5 := f5 (hd ⟨5, .data⟩ (by simp) rfl)
        subst g5
        refine wpOp_step rfl (fun K' hK => ?_)
        go_simp
        refine hK _ _ ?_
        exact ⟨_, _, _, _, _, _, _, _, _, _, _, _, _, _, _, _, rfl, (I0), (kp f0), (kp f1), (kp f2), (kp f3), (kp f4), (kp f5), (fun _ => rfl), (kp f7), (kp f8), (kp f9), (kp f10), (kp f11), (kp f12), (kp f13), (kp f14), (kp f15)⟩
      · obtain rfl := Option.some.inj ho
        have g6 := f6 (hd ⟨6, .guard⟩ (by simp) rfl)
        subst g6
        have z0 : ww.cell? ⟨w.heap.size, 0, none⟩ = some (.slice A n c) := (I0.cell (p := ⟨w.heap.size, 0, none⟩) hpl).trans x0
        have z1 : ww.cell? ⟨w.heap.size, 1, none⟩ = some (.slice R m d) := (I0.cell (p := ⟨w.heap.size, 1, none⟩) hpl).trans x1
        refine wpOp_step rfl (fun K' hK => ?_)
        go_simp
        refine hK _ _ ?_
        exact ⟨_, _, _, _, _, _, _, _, _, _, _, _, _, _, _, _, rfl, (I0), (kp f0), (kp f1), (kp f2), (kp f3), (kp f4), (kp f5), (kp f6), (fun _ => rfl), (kp f8), (kp f9), (kp f10), (kp f11), (kp f12), (kp f13), (kp f14), (kp f15)⟩
      · obtain rfl := Option.some.inj ho
        have g7 := f7 (hd ⟨7, .data⟩ (by simp) rfl)
        subst g7
        have g6 := f6 (hd ⟨6, .guard⟩ (by simp) rfl)
        subst g6
        refine wpOp_step rfl (fun K' hK => ?_)
        go_simp
        refine (encoded_any _ _ _ _ _ _ a ww (r0.up I0) HVA.out).mono ?_
        rintro e w' ⟨ov, N2, n2, c2, vv, rfl, o1, o2, b5⟩
        obtain ⟨A1, c1, e1, -⟩ := o1.form
        subst e1
        obtain ⟨A3, c3, e3, -⟩ := o2.form
        subst e3
        have R3 := o2.reads
        refine hK _ _ ?_
        exact ⟨_, _, _, _, _, _, _, _, _, _, _, _, _, _, _, _, rfl, (I0.trans (b5.mono I0.size)), (kp f0), (kp f1), (kp f2), (kp f3), (kp f4), (kp f5), (kp f6), (kp f7), (fun _ => ⟨_, _, _, _, _, _, _, _, _, rfl, R3⟩), (fun h => by
          obtain ⟨u0, u1, u2, e, r⟩ := f9 (upd_ne h (by decide))
          exact ⟨u0, u1, u2, e, r.up b5⟩), (kp f10), (fun h => by
          obtain ⟨u0, u1, u2, u3, u4, u5, u6, u7, u8, e, r⟩ := f11 (upd_ne h (by decide))
          exact ⟨u0, u1, u2, u3, u4, u5, u6, u7, u8, e, r.up b5⟩), (fun h => by
          obtain ⟨u0, u1, u2, e, r⟩ := f12 (upd_ne h (by decide))
          exact ⟨u0, u1, u2, e, r.up b5⟩), (kp f13), (kp f14), (kp f15)⟩
      · obtain rfl := Option.some.inj ho
        have g8 := f8 (hd ⟨8, .data⟩ (by simp) rfl)
        have g6 := f6 (hd ⟨6, .guard⟩ (by simp) rfl)
        subst g6
        obtain ⟨A1, n1, c1, A2, n2, c2, A3, n3, c3, e, R3⟩ := g8
        subst e
        have F0 := field_enc1 A1 A2 A3 n1 c1 n2 c2 n3 c3
        refine wpOp_step rfl (fun K' hK => ?_)
        go_simp
        refine hK _ _ ?_
        exact ⟨_, _, _, _, _, _, _, _, _, _, _, _, _, _, _, _, rfl, (I0), (kp f0), (kp f1), (kp f2), (kp f3), (kp f4), (kp f5), (kp f6), (kp f7), (fun _ => ⟨_, _, _, _, _, _, _, _, _, rfl, R3⟩), (fun _ => ⟨_, _, _, rfl, R3⟩), (kp f10), (kp f11), (kp f12), (kp f13), (kp f14), (kp f15)⟩
      · obtain rfl := Option.some.inj ho
        have g6 := f6 (hd ⟨6, .guard⟩ (by simp) rfl)
        subst g6
        have z0 : ww.cell? ⟨w.heap.size + 1, 0, none⟩ = some (.slice A' n' c') := (I0.cell (p := ⟨w.heap.size + 1, 0, none⟩) hql).trans y0
        have z1 : ww.cell? ⟨w.heap.size + 1, 1, none⟩ = some (.slice R' m' d') := (I0.cell (p := ⟨w.heap.size + 1, 1, none⟩) hql).trans y1
        refine wpOp_step rfl (fun K' hK => ?_)
        go_simp
        refine hK _ _ ?_
        exact ⟨_, _, _, _, _, _, _, _, _, _, _, _, _, _, _, _, rfl, (I0), (kp f0), (kp f1), (kp f2), (kp f3), (kp f4), (kp f5), (kp f6), (kp f7), (kp f8), (kp f9), (fun _ => rfl), (kp f11), (kp f12), (kp f13), (kp f14), (kp f15)⟩
      · obtain rfl := Option.some.inj ho
        have g10 := f10 (hd ⟨10, .data⟩ (by simp) rfl)
        subst g10
        have g6 := f6 (hd ⟨6, .guard⟩ (by simp) rfl)
        subst g6
        refine wpOp_step rfl (fun K' hK => ?_)
        go_simp
        refine (encoded_any _ _ _ _ _ _ b ww (s0.up I0) HVB.out).mono ?_
        rintro e w' ⟨ov, N2, n2, c2, vv, rfl, o1, o2, b5⟩
        obtain ⟨A1, c1, e1, -⟩ := o1.form
        subst e1
        obtain ⟨A3, c3, e3, -⟩ := o2.form
        subst e3
        have R3 := o2.reads
        refine hK _ _ ?_
        exact ⟨_, _, _, _, _, _, _, _, _, _, _, _, _, _, _, _, rfl, (I0.trans (b5.mono I0.size)), (kp f0), (kp f1), (kp f2), (kp f3), (kp f4), (kp f5), (kp f6), (kp f7), (fun h => by
          obtain ⟨u0, u1, u2, u3, u4, u5, u6, u7, u8, e, r⟩ := f8 (upd_ne h (by decide))
          exact ⟨u0, u1, u2, u3, u4, u5, u6, u7, u8, e, r.up b5⟩), (fun h => by
          obtain ⟨u0, u1, u2, e, r⟩ := f9 (upd_ne h (by decide))
          exact ⟨u0, u1, u2, e, r.up b5⟩), (kp f10), (fun _ => ⟨_, _, _, _, _, _, _, _, _, rfl, R3⟩), (fun h => by
          obtain ⟨u0, u1, u2, e, r⟩ := f12 (upd_ne h (by decide))
          exact ⟨u0, u1, u2, e, r.up b5⟩), (kp f13), (kp f14), (kp f15)⟩
      · obtain rfl := Option.some.inj ho
        have g11 := f11 (hd ⟨11, .data⟩ (by simp) rfl)
        have g6 := f6 (hd ⟨6, .guard⟩ (by simp) rfl)
        subst g6
        obtain ⟨A1, n1, c1, A2, n2, c2, A3, n3, c3, e, R3⟩ := g11
        subst e
        have F0 := field_enc1 A1 A2 A3 n1 c1 n2 c2 n3 c3
        refine wpOp_step rfl (fun K' hK => ?_)
        go_simp
        refine hK _ _ ?_
        exact ⟨_, _, _, _, _, _, _, _, _, _, _, _, _, _, _, _, rfl, (I0), (kp f0), (kp f1), (kp f2), (kp f3), (kp f4), (kp f5), (kp f6), (kp f7), (kp f8), (kp f9), (kp f10), (fun _ => ⟨_, _, _, _, _, _, _, _, _, rfl, R3⟩), (fun _ => ⟨_, _, _, rfl, R3⟩), (kp f13), (kp f14), (kp f15)⟩
      · obtain rfl := Option.some.inj ho
        have g9 := f9 (hd ⟨9, .data⟩ (by simp) rfl)
        have g12 := f12 (hd ⟨12, .data⟩ (by simp) rfl)
        have g6 := f6 (hd ⟨6, .guard⟩ (by simp) rfl)
        subst g6
        obtain ⟨A3, n3, c3, e, R3⟩ := g9
        subst e
        obtain ⟨B3, m3, d3, e, R4⟩ := g12
        subst e
        have l3 := R3.1
        have l4 := R4.1
        refine wpOp_step rfl (fun K' hK => ?_)
        go_simp
        refine (equalI_any _ _ _ _ _ _ _ _ ww R3 R4 (by have := HLA.out; omega) (by have := HLB.out; omega)).mono ?_
        rintro e w' ⟨rfl, b5⟩
        refine hK _ _ ?_
        exact ⟨_, _, _, _, _, _, _, _, _, _, _, _, _, _, _, _, rfl, (I0.trans (b5.mono I0.size)), (kp f0), (kp f1), (kp f2), (kp f3), (kp f4), (kp f5), (kp f6), (kp f7), (fun h => by
          obtain ⟨u0, u1, u2, u3, u4, u5, u6, u7, u8, e, r⟩ := f8 (upd_ne h (by decide))
          exact ⟨u0, u1, u2, u3, u4, u5, u6, u7, u8, e, r.up b5⟩), (fun _ => ⟨_, _, _, rfl, R3.up b5⟩), (kp f10), (fun h => by
          obtain ⟨u0, u1, u2, u3, u4, u5, u6, u7, u8, e, r⟩ := f11 (upd_ne h (by decide))
          exact ⟨u0, u1, u2, u3, u4, u5, u6, u7, u8, e, r.up b5⟩), (fun _ => ⟨_, _, _, rfl, R4.up b5⟩), (fun _ => rfl), (kp f14), (kp f15)⟩
      · obtain rfl := Option.some.inj ho
        have g6 := f6 (hd ⟨6, .data⟩ (by simp) rfl)
        have g13 := f13 (hd ⟨13, .data⟩ (by simp) rfl)
        subst g6
        subst g13
        refine wpOp_step rfl (fun K' hK => ?_)
        go_simp
        refine hK _ _ ?_
        exact ⟨_, _, _, _, _, _, _, _, _, _, _, _, _, _, _, _, rfl, (I0), (kp f0), (kp f1), (kp f2), (kp f3), (kp f4), (kp f5), (kp f6), (kp f7), (kp f8), (kp f9), (kp f10), (kp f11), (kp f12), (kp f13), (fun _ => rfl), (kp f15)⟩
      · obtain rfl := Option.some.inj ho
        have g14 := f14 (hd ⟨14, .data⟩ (by simp) rfl)
        subst g14
        refine wpOp_step rfl (fun K' hK => ?_)
        go_simp
        refine hK _ _ ?_
        exact ⟨_, _, _, _, _, _, _, _, _, _, _, _, _, _, _, _, rfl, (I0), (kp f0), (kp f1), (kp f2), (kp f3), (kp f4), (kp f5), (kp f6), (kp f7), (kp f8), (kp f9), (kp f10), (kp f11), (kp f12), (kp f13), (kp f14), (fun _ => rfl)⟩
    case hdone =>
      rintro L ac ww hall ⟨t4, t5, t6, t7, t8, t9, t10, t11, t12, t13, t14, t15, t16, t17, t18, t19, rfl, I0, f0, f1, f2, f3, f4, f5, f6, f7, f8, f9, f10, f11, f12, f13, f14, f15⟩
      have e0 := f0 (hall 0 (by decide))
      have e1 := f1 (hall 1 (by decide))
      have e2 := f2 (hall 2 (by decide))
      have e3 := f3 (hall 3 (by decide))
      have e4 := f4 (hall 4 (by decide))
      have e5 := f5 (hall 5 (by decide))
      have e6 := f6 (hall 6 (by decide))
      have e7 := f7 (hall 7 (by decide))
      have e8 := f8 (hall 8 (by decide))
      have e9 := f9 (hall 9 (by decide))
      have e10 := f10 (hall 10 (by decide))
      have e11 := f11 (hall 11 (by decide))
      have e12 := f12 (hall 12 (by decide))
      have e13 := f13 (hall 13 (by decide))
      have e14 := f14 (hall 14 (by decide))
      have e15 := f15 (hall 15 (by decide))
      clear f0 f1 f2 f3 f4 f5 f6 f7 f8 f9 f10 f11 f12 f13 f14 f15
      subst e15
      have bbf := b0.trans (I0.mono b0.size)
      clear e0 e1 e2 e3 e4 e5 e6 e7 e8 e9 e10 e11 e12 e13 e14
      go_wp2_with fail
      go_ret
      exact ⟨by rw [HSV.out]; rfl, bbf⟩
end Go.Proofs.Ytakdjiojahlnmaa

namespace Go.Proofs.Ytakdjiojahlnmaa
open Go.RowKit
set_option maxRecDepth 100000
set_option maxHeartbeats 16000000 in
theorem lazyTakeLaw_walk (A0 : Option Addr) (n0 c0 : Nat) (w : World) (hby : Bytes w w.heap.size A0 n0) (hc0 : n0 ≤ c0) (hn0 : n0 ≤ 9223372036854775807) :
    Calls Try.prog 5 #[.slice A0 n0 c0] w fun e w' => e = .returned (.bool true) ∧ Below w.heap.size w w' := by
  by_cases hs : n0 ≤ 1048576
  case neg =>
    have hs' : (1048576 : Int) < (n0 : Int) := by omega
    go_enter Try.func5, Try.ntmps5
    go_wp2
    go_ret
    exact ⟨rfl, Below.refl _ _⟩
  have hs' : decide ((1048576 : Int) < (n0 : Int)) = false := by simp; omega
  go_enter Try.func5, Try.ntmps5
  go_wp2_with fail
  refine (drawLazyTake_any _ _ _ _ hby hc0 hn0).mono ?_
  rintro e w1 ⟨A, n, c, R, m, d, D, q, ce, h, ms, i, rfl, hnc, hmd, ⟨rvs, own⟩, hsm, hml, b1⟩
  have hsr := own.heap.reads
  have hkr := own.mks.reads
  have hn41 : n ≤ 41 := by have := hsm.1; have := hsr.cells.1; omega
  have hm4 : m ≤ 4 := by have := hsm.2.1; have := hsr.roots.1; omega
  have hq41 : q ≤ 41 := by have := hkr.1; omega
  have HNL := Lib.hid hsr.cells.1
  have HML := Lib.hid hsr.roots.1
  have HKL := Lib.hid hkr.1
  have HS3 := Lib.hid (fun cl (hc : cl ∈ h.cs) => (hsm.2.2.1 cl hc).1)
  have bA : Below w1.heap.size w1 (w1.alloc (.cells #[.slice A n c, .slice R m d, .slice D q ce, .int .i64 i] 30)) := (Below.refl _ _).alloc (Nat.le_refl _) _
  have bx := Rw.new w1 30 #[.slice A n c, .slice R m d, .slice D q ce, .int .i64 i]
  replace hsr := hsr.up bA
  replace hkr := hkr.up bA
  have bb := b1.trans (bA.mono b1.size)
  clear bA b1 hsm hby own hml
  go_upto_region 4 with fail
  generalize w1.alloc (.cells #[.slice A n c, .slice R m d, .slice D q ce, .int .i64 i] 30) = w2 at bx hsr hkr bb ⊢
  generalize w1.heap.size = b at bx ⊢
  have x0 : w2.cell? ⟨b, 0, none⟩ = some (.slice A n c) := bx.cell 0
  have x1 : w2.cell? ⟨b, 1, none⟩ = some (.slice R m d) := bx.cell 1
  have x2 : w2.cell? ⟨b, 2, none⟩ = some (.slice D q ce) := bx.cell 2
  have x3 : w2.cell? ⟨b, 3, none⟩ = some (.int .i64 i) := bx.cell 3
  go_wp2_with fail
  refine (lazyTake_any _ _ _ _ _ _ _ _ _ i h ms _ hsr hkr (by omega) (by omega) (by omega) hnc hmd).mono ?_
  obtain ⟨X, hX⟩ : ∃ X, (Hps.takeLz ⟨h, ms, i⟩).1 = X := ⟨_, rfl⟩
  obtain ⟨z, hz⟩ : ∃ z, (Hps.takeLz ⟨h, ms, i⟩).2 = z := ⟨_, rfl⟩
  have HX := Lib.hid hX
  have HZ := Lib.hid hz
  rw [hX, hz]
  clear hX hz
  rintro e w3 ⟨vc, vr, vm, rfl, ⟨rvs, ox⟩, b3⟩
  obtain ⟨A1, c1, R1, d1, D1, e1, rfl, rfl, rfl, hc1, hd1⟩ := ox.slices
  obtain ⟨n1, hn1⟩ : ∃ n1, X.s.cs.length = n1 := ⟨_, rfl⟩
  obtain ⟨m1, hm1⟩ : ∃ m1, X.s.rt.length = m1 := ⟨_, rfl⟩
  obtain ⟨q1, hq1⟩ : ∃ q1, X.ms.length = q1 := ⟨_, rfl⟩
  obtain ⟨i1, hi1⟩ : ∃ i1, X.i = i1 := ⟨_, rfl⟩
  have HN1 := Lib.hid hn1
  have HM1 := Lib.hid hm1
  have HQ1 := Lib.hid hq1
  have HI1 := Lib.hid hi1
  rw [hn1] at hc1 ox
  rw [hm1] at hd1 ox
  rw [hq1] at ox
  rw [hn1, hm1, hq1, hi1]
  have HXI := Lib.hid (show X = ⟨X.s, X.ms, i1⟩ by rw [← hi1])
  have HOZ := Lib.hid (show X = Hps.zeroLz ∨ Hps.okLz X by
    by_cases hok : Hps.okLz ⟨h, ms, i⟩
    · right
      rw [← HX.out]
      exact Hps.take_ok hok
    · left
      rw [← HX.out, Hps.take_no hok])
  have hsz : n1 ≤ 40 ∧ m1 ≤ 4 ∧ q1 ≤ 40 ∧ ∀ cl ∈ X.s.cs, cl.r.length ≤ 3 := by
    rw [← hn1, ← hm1, ← hq1]
    rcases HOZ.out with e | ok
    · rw [e]
      exact ⟨by decide, by decide, by decide, fun cl hcl => by cases hcl⟩
    · obtain ⟨a1, a2, a3⟩ := Hps.valid_small ok.1
      exact ⟨a1, by omega, by have := ok.2.1; omega, a3⟩
  obtain ⟨hn1s, hm1s, hq1s, hx3⟩ := hsz
  have HX3 := Lib.hid hx3
  have hxs := ox.heap.reads
  have hxm := ox.mks.reads
  clear hn1 hm1 hq1 hi1 hx3 ox
  replace bx := bx.keep b3 bx.lt
  replace hsr := hsr.up b3
  replace hkr := hkr.up b3
  replace bb := bb.trans (b3.mono bb.size)
  have bB : Below w3.heap.size w3 (w3.alloc (.cells #[.slice A1 n1 c1, .slice R1 m1 d1, .slice D1 q1 e1, .int .i64 i1] 30)) := (Below.refl _ _).alloc (Nat.le_refl _) _
  have lx := Rw.new w3 30 #[.slice A1 n1 c1, .slice R1 m1 d1, .slice D1 q1 e1, .int .i64 i1]
  replace bx := bx.keep bB bx.lt
  replace hsr := hsr.up bB
  replace hkr := hkr.up bB
  replace bb := bb.trans (bB.mono bb.size)
  replace hxs := hxs.up bB
  replace hxm := hxm.up bB
  clear bB x0 x1 x2 x3 b3
  go_upto_region 5 with fail
  generalize w3.alloc (.cells #[.slice A1 n1 c1, .slice R1 m1 d1, .slice D1 q1 e1, .int .i64 i1] 30) = w4 at bx hsr hkr bb hxs hxm lx ⊢
  generalize w3.heap.size = g at lx ⊢
  have x0 : w4.cell? ⟨b, 0, none⟩ = some (.slice A n c) := bx.cell 0
  have x1 : w4.cell? ⟨b, 1, none⟩ = some (.slice R m d) := bx.cell 1
  have x2 : w4.cell? ⟨b, 2, none⟩ = some (.slice D q ce) := bx.cell 2
  have x3 : w4.cell? ⟨b, 3, none⟩ = some (.int .i64 i) := bx.cell 3
  go_wp2_with fail
  refine (mLazyTake_any _ _ _ _ _ _ _ _ _ i h ms _ hsr hkr (by omega) (by omega) (by omega)).mono ?_
  rw [HX.out, HZ.out]
  rintro e w5 ⟨vc, vr, vm, rfl, ⟨rvs, oy⟩, b5⟩
  obtain ⟨A2, c2, R2, d2, D2, e2, rfl, rfl, rfl, -, -⟩ := oy.slices
  rw [HN1.out, HM1.out, HQ1.out] at oy
  rw [HN1.out, HM1.out, HQ1.out, HI1.out]
  have hys := oy.heap.reads
  have hym := oy.mks.reads
  have bC : Below w5.heap.size w5 (w5.alloc (.cells #[.slice A2 n1 c2, .slice R2 m1 d2, .slice D2 q1 e2, .int .i64 i1] 30)) := (Below.refl _ _).alloc (Nat.le_refl _) _
  have b45 := b5.trans (bC.mono b5.size)
  have ly := Rw.new w5 30 #[.slice A2 n1 c2, .slice R2 m1 d2, .slice D2 q1 e2, .int .i64 i1]
  replace bx := bx.keep b45 bx.lt
  replace lx := lx.keep b45 lx.lt
  replace hsr := hsr.up b45
  replace hkr := hkr.up b45
  replace hxs := hxs.up b45
  replace hxm := hxm.up b45
  replace hys := hys.up bC
  replace hym := hym.up bC
  replace bb := bb.trans (b45.mono bb.size)
  clear x0 x1 x2 x3 oy b5 bC b45
  go_upto_region 6 with fail
  generalize w5.alloc (.cells #[.slice A2 n1 c2, .slice R2 m1 d2, .slice D2 q1 e2, .int .i64 i1] 30) = w6 at bx hsr hkr bb hxs hxm lx hys hym ly ⊢
  generalize w5.heap.size = g2 at ly ⊢
  have x0 : w6.cell? ⟨g, 0, none⟩ = some (.slice A1 n1 c1) := lx.cell 0
  have x1 : w6.cell? ⟨g, 1, none⟩ = some (.slice R1 m1 d1) := lx.cell 1
  have x2 : w6.cell? ⟨g, 2, none⟩ = some (.slice D1 q1 e1) := lx.cell 2
  have x3 : w6.cell? ⟨g, 3, none⟩ = some (.int .i64 i1) := lx.cell 3
  have y0 : w6.cell? ⟨g2, 0, none⟩ = some (.slice A2 n1 c2) := ly.cell 0
  have y1 : w6.cell? ⟨g2, 1, none⟩ = some (.slice R2 m1 d2) := ly.cell 1
  have y2 : w6.cell? ⟨g2, 2, none⟩ = some (.slice D2 q1 e2) := ly.cell 2
  have y3 : w6.cell? ⟨g2, 3, none⟩ = some (.int .i64 i1) := ly.cell 3
  have hzz : (z != z) = false := by simp
  go_wp2_with fail
  refine (sameLazy_same _ _ _ _ _ _ _ _ _ _ _ _ _ _ _ X.s X.ms i1 _ hxs hxm hys hym (by omega) (by omega) (by omega) (fun cl hcl => Nat.le_trans (HX3.out cl hcl) (by omega))).mono ?_
  rintro e w7 ⟨rfl, b7⟩
  replace bx := bx.keep b7 bx.lt
  replace lx := lx.keep b7 lx.lt
  replace hsr := hsr.up b7
  replace hkr := hkr.up b7
  replace hxs := hxs.up b7
  replace hxm := hxm.up b7
  replace bb := bb.trans (b7.mono bb.size)
  clear x0 x1 x2 x3 y0 y1 y2 y3 ly hys hym b7
  have x0 : w7.cell? ⟨b, 0, none⟩ = some (.slice A n c) := bx.cell 0
  have x1 : w7.cell? ⟨b, 1, none⟩ = some (.slice R m d) := bx.cell 1
  have x2 : w7.cell? ⟨b, 2, none⟩ = some (.slice D q ce) := bx.cell 2
  have x3 : w7.cell? ⟨b, 3, none⟩ = some (.int .i64 i) := bx.cell 3
  go_wp2_with fail
  refine (mLazyValid_any _ _ _ _ _ _ _ _ _ i h ms _ hsr hkr (by omega) (by omega) (by omega)).mono ?_
  rintro e w8 ⟨⟨r1, rfl, hr1⟩, b8⟩
  replace bx := bx.keep b8 bx.lt
  replace lx := lx.keep b8 lx.lt
  replace hsr := hsr.up b8
  replace hkr := hkr.up b8
  replace hxs := hxs.up b8
  replace hxm := hxm.up b8
  replace bb := bb.trans (b8.mono bb.size)
  clear x0 x1 x2 x3 b8
  cases r1
  · have hno : ¬ Hps.okLz ⟨h, ms, i⟩ := fun ok => by have := hr1.2 ok; cases this
    obtain rfl : z = -1 := by rw [← HZ.out, Hps.take_no hno]
    obtain rfl : m1 = 0 := by rw [← HM1.out, ← HX.out, Hps.take_no hno]; rfl
    clear hno hr1
    have y1 : w8.cell? ⟨g, 1, none⟩ = some (.slice R1 (0 : Nat) d1) := lx.cell 1
    go_wp2_with fail
    refine (alive_any _).mono ?_
    rintro e w9 ⟨rfl, b9⟩
    have bb9 := bb.trans (b9.mono bb.size)
    go_wp2_with fail
    go_ret
    exact ⟨rfl, bb9⟩
  have hok : Hps.okLz ⟨h, ms, i⟩ := hr1.1 rfl
  have HOX := Lib.hid (show Hps.okLz ⟨X.s, X.ms, i1⟩ by rw [← HXI.out, ← HX.out]; exact Hps.take_ok hok)
  have HCS := Lib.hid (Hps.take_cases hok)
  have HV := Lib.hid (show Hps.validH h = true from hok.1)
  have HVX := Lib.hid (show Hps.validH X.s = true from HOX.out.1)
  have HSV := Lib.hid (show Hps.sameV X.s h = true by
    rcases HCS.out with ⟨e, _⟩ | ⟨k, e, _, _, _, _, e2⟩
    · rw [← HX.out, e]
      exact Hps.sameV_refl HV.out
    · rw [← HX.out, e]
      exact e2)
  clear hok hr1
  have x0 : w8.cell? ⟨g, 0, none⟩ = some (.slice A1 n1 c1) := lx.cell 0
  have x1 : w8.cell? ⟨g, 1, none⟩ = some (.slice R1 m1 d1) := lx.cell 1
  have x2 : w8.cell? ⟨g, 2, none⟩ = some (.slice D1 q1 e1) := lx.cell 2
  have x3 : w8.cell? ⟨g, 3, none⟩ = some (.int .i64 i1) := lx.cell 3
  go_wp2_with fail
  refine (lazyValid_any _ _ _ _ _ _ _ _ _ i1 X.s X.ms _ hxs hxm (by omega) (by omega) (by omega) hc1 hd1).mono ?_
  rintro e w9 ⟨⟨r2, rfl, hr2⟩, b9⟩
  obtain rfl : r2 = true := hr2.2 HOX.out
  replace bx := bx.keep b9 bx.lt
  replace lx := lx.keep b9 lx.lt
  replace hsr := hsr.up b9
  replace hkr := hkr.up b9
  replace hxs := hxs.up b9
  replace hxm := hxm.up b9
  replace bb := bb.trans (b9.mono bb.size)
  clear x0 x1 x2 x3 b9 hr2
  have x0 : w9.cell? ⟨g, 0, none⟩ = some (.slice A1 n1 c1) := lx.cell 0
  have x1 : w9.cell? ⟨g, 1, none⟩ = some (.slice R1 m1 d1) := lx.cell 1
  have y0 : w9.cell? ⟨b, 0, none⟩ = some (.slice A n c) := bx.cell 0
  have y1 : w9.cell? ⟨b, 1, none⟩ = some (.slice R m d) := bx.cell 1
  go_wp2_with fail
  refine (sameView_any _ _ _ _ _ _ _ _ _ _ _ _ X.s h _ hxs hsr (by omega) (by omega) hc1 hd1 (by omega) (by omega) hnc hmd).mono ?_
  rw [HSV.out]
  rintro e w10 ⟨rfl, b10⟩
  replace bx := bx.keep b10 bx.lt
  replace lx := lx.keep b10 lx.lt
  replace hsr := hsr.up b10
  replace hkr := hkr.up b10
  replace hxs := hxs.up b10
  replace hxm := hxm.up b10
  replace bb := bb.trans (b10.mono bb.size)
  clear x0 x1 y0 y1 b10
  rcases HCS.out with ⟨he, -, -⟩ | ⟨k, he, -, hkm, hmk, hok2, -⟩
  · obtain rfl : z = -1 := by rw [← HZ.out, he]
    have HXS := Lib.hid (show X.s = h by rw [← HX.out, he])
    have hnn : n1 = n := by rw [← HN1.out, HXS.out]; exact HNL.out
    have hmm : m1 = m := by rw [← HM1.out, HXS.out]; exact HML.out
    have hii : i1 = (q1 : Int) := by rw [← HI1.out, ← HQ1.out, ← HX.out, he]
    rw [HXS.out] at hxs
    subst hnn hmm hii
    clear he
    have hqq : ((q1 : Int) == (q1 : Int)) = true := by simp
    have x0 : w10.cell? ⟨g, 0, none⟩ = some (.slice A1 n1 c1) := lx.cell 0
    have x1 : w10.cell? ⟨g, 1, none⟩ = some (.slice R1 m1 d1) := lx.cell 1
    have x2 : w10.cell? ⟨g, 2, none⟩ = some (.slice D1 q1 e1) := lx.cell 2
    have x3 : w10.cell? ⟨g, 3, none⟩ = some (.int .i64 (q1 : Nat)) := lx.cell 3
    have y0 : w10.cell? ⟨b, 0, none⟩ = some (.slice A n1 c) := bx.cell 0
    have y1 : w10.cell? ⟨b, 1, none⟩ = some (.slice R m1 d) := bx.cell 1
    go_wp2_with fail
    refine (sameHeap_same _ _ _ _ _ _ _ _ _ _ h _ hxs hsr (by omega) (by omega) (fun cl hcl => Nat.le_trans (HS3.out cl hcl) (by omega))).mono ?_
    rintro e w11 ⟨rfl, b11⟩
    replace bb := bb.trans (b11.mono bb.size)
    clear x0 x1 x2 x3 y0 y1 b11
    go_wp2_with fail
    go_ret
    exact ⟨rfl, bb⟩
  obtain rfl : z = (k : Int) := by rw [← HZ.out, he]
  have HXK := Lib.hid (show X = Hps.tookLz ⟨h, ms, i⟩ k by rw [← HX.out, he])
  have hkq : k < q := by rw [← HKL.out]; exact hkm
  have hkq' : (k : Int) < q := by omega
  have hk0 : ¬ (k : Int) < 0 := by omega
  have HNX := Lib.hid (Hps.take_next hok2)
  rw [← HXK.out] at HNX
  have hn1q : n1 = q := by
    rw [← HN1.out, HXK.out]
    have h1 : (Hps.tookLz ⟨h, ms, i⟩ k).ms.length = (Hps.tookLz ⟨h, ms, i⟩ k).s.cs.length := hok2.2.1
    rw [← h1]
    show (ms.set k true).length = q
    rw [List.length_set, HKL.out]
  have hkn1' : k < n1 := by omega
  have hkn1 : (k : Int) < n1 := by omega
  have HMK := Lib.hid (show ms[k]? = some false from hmk)
  have HUS := Lib.hid (show ∃ cl, X.s.cs[k]? = some cl ∧ cl.u = true from by
    rw [HXK.out]
    have hkc : k < h.cs.length := by
      have h1 : (Hps.tookLz ⟨h, ms, i⟩ k).s.cs.length = h.cs.length := by
        show ((Hps.cutL ms h.cs).set k Hps.tookCl).length = _
        rw [List.length_set, Hps.cutL, Hps.cut_len]
      rw [← h1, ← hok2.2.1]
      show k < (ms.set k true).length
      rw [List.length_set]
      exact hkm
    refine ⟨Hps.tookCl, ?_, rfl⟩
    show ((Hps.cutL ms h.cs).set k Hps.tookCl)[k]? = _
    rw [List.getElem?_set_self (by rw [Hps.cutL, Hps.cut_len]; exact hkc)])
  clear he hkm hmk hok2 hn1q
  have x0 : w10.cell? ⟨g, 0, none⟩ = some (.slice A1 n1 c1) := lx.cell 0
  have x1 : w10.cell? ⟨g, 1, none⟩ = some (.slice R1 m1 d1) := lx.cell 1
  have x2 : w10.cell? ⟨g, 2, none⟩ = some (.slice D1 q1 e1) := lx.cell 2
  have x3 : w10.cell? ⟨g, 3, none⟩ = some (.int .i64 i1) := lx.cell 3
  go_wp2_with fail
  refine (lazyTake_any _ _ _ _ _ _ _ _ _ i1 X.s X.ms _ hxs hxm (by omega) (by omega) (by omega) hc1 hd1).mono ?_
  rw [← HXI.out]
  obtain ⟨z2, hz2⟩ : ∃ z2, (Hps.takeLz X).2 = z2 := ⟨_, rfl⟩
  rw [hz2] at HNX ⊢
  obtain ⟨X2, hX2⟩ : ∃ X2, (Hps.takeLz X).1 = X2 := ⟨_, rfl⟩
  rw [hX2]
  clear hz2 hX2
  rintro e w11 ⟨vc, vr, vm, rfl, ow, b11⟩
  obtain ⟨A3, n3, c3, R3, m3, d3, D3, q3, e3, rfl, rfl, rfl⟩ := ow.slices
  have bD : Below w11.heap.size w11 (w11.alloc (.cells #[.slice A3 n3 c3, .slice R3 m3 d3, .slice D3 q3 e3, .int .i64 X2.i] 30)) := (Below.refl _ _).alloc (Nat.le_refl _) _
  have b12 := b11.trans (bD.mono b11.size)
  replace bx := bx.keep b12 bx.lt
  replace lx := lx.keep b12 lx.lt
  replace hkr := hkr.up b12
  replace hxs := hxs.up b12
  replace bb := bb.trans (b12.mono bb.size)
  clear x0 x1 x2 x3 ow bD b12 b11 hsr hxm
  go_upto_region 15 with fail
  generalize w11.alloc (.cells #[.slice A3 n3 c3, .slice R3 m3 d3, .slice D3 q3 e3, .int .i64 X2.i] 30) = w12 at bx lx hkr hxs bb ⊢
  have x0 : w12.cell? ⟨g, 0, none⟩ = some (.slice A1 n1 c1) := lx.cell 0
  have x2 : w12.cell? ⟨b, 2, none⟩ = some (.slice D q ce) := bx.cell 2
  obtain ⟨gd, od, mb, rfl, -, hmb, d8⟩ := hkr.at_ hkq
  rw [HMK.out] at hmb
  obtain rfl := Option.some.inj hmb
  obtain ⟨cl, hcl, hcu⟩ := HUS.out
  obtain ⟨ga, oa, cl2, A', m', cc, rfl, hga, hcl2, f1, f2, f3, -, -⟩ := hxs.cells.at_ (k := k) hkn1'
  rw [hcl] at hcl2
  obtain rfl := Option.some.inj hcl2
  rw [hcu] at f1
  have hor := HNX.out
  clear hmb hcl hcl2 hcu f2 f3 HNX
  by_cases hz1 : z2 = -1
  · subst hz1
    clear hor
    go_wp2_with fail
    go_ret
    exact ⟨rfl, bb⟩
  · have hz3 : (z2 == -1) = false := by rw [beq_eq_false_iff_ne]; exact hz1
    have hgt : (k : Int) < z2 := by
      rcases hor with e | e
      · exact absurd e hz1
      · exact e
    clear hor hz1
    go_wp2_with fail
    go_ret
    exact ⟨rfl, bb⟩
end Go.Proofs.Ytakdjiojahlnmaa

namespace Go.Proofs.Ytakdjiojahlnmaa
open Go.ChangeShapes Go.WideShapes Go.ChangeAt Go.RowKit Go.Deep
theorem own : ownKnob Try.prog.godebug = none := by kernel_rfl
theorem laidOut : laidOutB Try.prog = true := by kernel_rfl
section
variable {H : Type} {enc : TypeId × Value → H} {P : Program} {W W' : World}
/-- all arguments read as they did -/
theorem stay_all (hl : laidOutB P = true) (hb : Below W.heap.size W W') : ∀ {ts : List TypeId} {vs : List Value} {ds : List (DataW H)} {p : List MemPlace},
    (∀ t ∈ ts, P.readableRec t = true ∧ t < P.types.size) → DataW.TrodAll enc P W 0 (fun _ => true) true ts vs ds p → (∀ x ∈ p, x.block < W.heap.size) →
    DataW.TrodAll enc P W' 0 (fun b => decide (b < W.heap.size)) true ts vs ds p
  | [], _, _, _, _, h, _ => by
    obtain ⟨rfl, rfl, rfl⟩ := trodAll_nil h
    exact trodAll_mk0
  | t :: ts, _, _, _, hts, h, hlt => by
    obtain ⟨v, vs, d, ds, p, q, rfl, rfl, rfl, h0, hr⟩ := trodAll_cons h
    have ht := hts t (by simp)
    exact trodAll_cons_mk (Below.trod hl ht.1 ht.2 h0 hb (fun x hx => hlt x (by simp [hx])))
      (stay_all hl hb (fun t' h' => hts t' (by simp [h'])) hr (fun x hx => hlt x (by simp [hx])))
/-- a law that returned true and left old memory alone has met its row -/
theorem law_post {f : Func} {s : ChangeSpec} {args : Array Value} {ds gs : List (DataW H)} {before : List MemPlace} {tb : TypeId}
    (hl : laidOutB P = true) (hts : ∀ t ∈ f.params.toList, P.readableRec t = true ∧ t < P.types.size) (hrt : f.resultTypes = #[tb]) (htb : P.underlying tb = some .bool)
    (hvars : s.vars = []) (hfn : s.fn H ds = { results := [.lit (.bool true)], args := ds })
    (hW : DataW.Whole enc P f.params.toList s.vars false W args.toList ds gs before) (hb : Below W.heap.size W W') :
    s.post enc P f false true false false W args (.bool true) W' := by
  have hW' := hW
  obtain ⟨p, q, hA, hV, rfl, hfz, hnd⟩ := hW
  rw [hvars] at hV
  obtain ⟨rfl, rfl⟩ := trodVars_none hV
  have hlt : ∀ x ∈ p, x.block < W.heap.size := fun x hx => by simpa using hW'.lt x (by simp [hx])
  refine ⟨ds, [], p ++ [], [], p, [], hW', ?_, ?_, ?_, ?_, fun h => by cases h⟩
  · rw [List.append_nil, hfn, hrt]
    exact trodAll_mk1 (shut_bool htb true)
  · rw [List.append_nil, hfn]
    exact stay_all hl hb hts hA hlt
  · rw [List.append_nil, hfn, hvars]
    rfl
  · exact hb.frame _
/-- an address at which a cell lies has no spot -/
theorem addr_of_cell {w : World} {a : Addr} {v : Value} (h : w.cell? a = some v) : a = ⟨a.block, a.off, none⟩ := by
  obtain ⟨b, o, sp⟩ := a
  cases sp with
  | none => rfl
  | some s =>
    unfold World.cell? at h
    simp only [] at h
    split at h <;> simp at h
theorem add_none (b o n : Nat) : (⟨b, o, none⟩ : Addr).add n = ⟨b, o + n, none⟩ := by
  unfold Addr.add
  split
  · next h => subst h; rfl
  · rfl
end
end Go.Proofs.Ytakdjiojahlnmaa

namespace Go.Proofs.Ytakdjiojahlnmaa
open Go.ChangeShapes Go.WideShapes Go.ChangeAt Go.RowKit Go.Deep
section
variable {H : Type} {enc : TypeId × Value → H} {P : Program} {W W' : World}
/-- a slice of bytes that came in -/
theorem open_bytes {t e : TypeId} {r : Reach} {b0 : Nat} {v : Value} {d : DataW H} {ps : List MemPlace} (ht : P.underlying t = some (.slice e)) (he : P.underlying e = some (.int .u8)) (ce : P.cellsOf e = 1)
    (hval : Value.okWide P W r b0 t v) (h : DataW.Trod enc P W 0 (fun _ => true) true t v d ps) (hlt : ∀ x ∈ ps, x.block < W.heap.size) :
    ∃ (A : Option Addr) (n c : Nat), v = .slice A n c ∧ n ≤ c ∧ n ≤ 9223372036854775807 ∧ Bytes W W.heap.size A n := by
  obtain ⟨A, n, c, rfl⟩ := okWide_slice ht hval
  obtain ⟨fuel, hf⟩ := h
  rcases open_ints ht he ce hf with ⟨h0, _⟩ | ⟨a, len, cap, zs, hcs, hb, hl, hm, hz, hx, hi, hwf⟩
  · simp [Value.cells] at h0
    obtain ⟨rfl, rfl, rfl⟩ := h0
    exact ⟨none, 0, 0, rfl, by omega, by omega, fun h => absurd h (by omega)⟩
  · simp [Value.cells] at hcs
    obtain ⟨rfl, rfl, rfl⟩ := hcs
    simp only [if_true] at hz
    refine ⟨some a, n, c, rfl, hl, by unfold maxLen at hm; omega, fun hn => ?_⟩
    have h0 := hi 0 (by omega)
    simp [Addr.add] at h0
    have ha := addr_of_cell h0
    have hblt : a.block < W.heap.size := by
      apply hlt (.cell a.block a.off)
      have hps := congrArg Prod.snd hx
      simp only [] at hps
      rw [hps, hz, ha]
      simp [MemPlace.row]
      omega
    refine ⟨a.block, a.off, by rw [← ha], hblt, fun i hin => ?_⟩
    have hc := hi i (by omega)
    have hmem : zs.getD i 0 ∈ zs := by
      rw [List.getD_eq_getElem?_getD, List.getElem?_eq_getElem (by omega)]
      exact List.getElem_mem _
    have hw := hwf _ hmem
    have hr : 0 ≤ zs.getD i 0 ∧ zs.getD i 0 ≤ 255 := by simpa [Lit.wf, IntKind.min, IntKind.max, IntKind.signed, IntKind.bits] using hw
    rw [ha, add_none] at hc
    exact ⟨_, hr.1, hr.2, hc⟩
end
end Go.Proofs.Ytakdjiojahlnmaa

