/- A walk that divides cells into components, as it lies in memory; and what the program's slices.Index and findComponent do. No conditions. -/
import Derived.Test.YtiojoailjiojjaaDoorRb
import Derived.Test.YtiojoailjiojjaaDoorRu
import Derived.Test.YtiojoailjiojjaaDoorHx
import Derived.Test.YtiojoailjiojjaaDoorKz
namespace Go.Proofs.YtiojoailjiojjaaDoor
open Go.RowKit
set_option maxRecDepth 100000

theorem rows_type {w : World} {b1 b2 s1 s2 n1 n2 : Nat} {e1 e2 : TypeId} {v1 v2 : Value} {xs ys : List Value} (h : w.ownsRow b1 e1 s1 v1 n1 xs) (h' : w.ownsRow b2 e2 s2 v2 n2 ys) (hne : e1 ≠ e2) : v1.ownBlock = none ∨ v1.ownBlock ≠ v2.ownBlock := by
  rcases h.2 with ⟨rfl, _⟩ | ⟨g, cap, cur, rfl, _, hh, _⟩
  · exact .inl rfl
  · right
    intro e
    rcases h'.2 with ⟨rfl, _⟩ | ⟨g', cap', cur', rfl, _, hh', _⟩
    · cases e
    · obtain rfl : g = g' := Option.some.inj e
      rw [hh] at hh'
      injection hh' with hh'
      injection hh' with _ h2
      exact hne h2

/-- components as numbers -/
def natsI (f : List Nat) : List Int := f.map fun (k : Nat) => (k : Int)
theorem natsI_snoc (f : List Nat) (w : Nat) : natsI f ++ [(w : Int)] = natsI (f ++ [w]) := by simp [natsI]
theorem natsI_len (f : List Nat) : (natsI f).length = f.length := by simp [natsI]

/-- a walk in the box b: its times in block g, all from block B on -/
structure WkSt (w : World) (B b g : Nat) (vc : Value) (n : Nat) (ov fv : Value) (S : Hps.Tw) : Prop where
  t : OwnI w B (.slice (some ⟨g, 0, none⟩) n n) S.t
  o : OwnI w B ov S.o
  f : OwnU w B fv (natsI S.f)
  sep : ov.ownBlock ≠ some g
  box : Rw w b 148 #[vc, .int .i64 S.met, .slice (some ⟨g, 0, none⟩) n n, ov, fv]
  lo : B ≤ b
  len : S.t.length = n
section
variable {w w' : World} {B b g n : Nat} {vc ov fv : Value} {S : Hps.Tw}
theorem WkSt.ne (W : WkSt w B b g vc n ov fv S) : b ≠ g ∧ some b ≠ ov.ownBlock ∧ some b ≠ fv.ownBlock := by
  refine ⟨fun e => ?_, row_type W.o W.box (by decide), row_type W.f W.box (by decide)⟩
  have h1 : some b ≠ some g := row_type W.t W.box (by decide)
  exact h1 (by rw [e])
theorem WkSt.up (W : WkSt w B b g vc n ov fv S) (h : Below w.heap.size w w') : WkSt w' B b g vc n ov fv S :=
  ⟨W.t.below h (Nat.le_refl _), W.o.below h (Nat.le_refl _), W.f.below h (Nat.le_refl _), W.sep, W.box.keep h W.box.lt, W.lo, W.len⟩
theorem WkSt.t_at (W : WkSt w B b g vc n ov fv S) {k : Nat} {x : Int} (h : S.t[k]? = some x) : w.cell? ⟨g, k, none⟩ = some (.int .i64 x) := by
  have hk : k < n := by have := (List.getElem?_eq_some_iff.1 h).1; have := W.len; omega
  obtain ⟨g', o', y, e1, _, hy, c1⟩ := W.t.reads.at_ hk
  injection e1 with e1
  injection e1 with e2 e3
  subst e2 e3
  rw [Nat.zero_add] at c1
  rw [h] at hy
  rw [c1, ← Option.some.inj hy]
theorem WkSt.met (W : WkSt w B b g vc n ov fv S) (m : Nat) : WkSt (w.setCell ⟨b, 1, none⟩ (.int .i64 m)) B b g vc n ov fv ⟨m, S.t, S.o, S.f⟩ := by
  obtain ⟨h1, h2, h3⟩ := W.ne
  have hp := put_any w b 1 (.int .i64 m)
  exact ⟨W.t.far hp (.inr fun e => h1 (Option.some.inj e).symm), W.o.far hp (.inr h2.symm), W.f.far hp (.inr h3.symm), W.sep, W.box.put 1 _, W.lo, W.len⟩
theorem WkSt.time (W : WkSt w B b g vc n ov fv S) (k : Nat) (x : Int) : WkSt (w.setCell ⟨g, k, none⟩ (.int .i64 x)) B b g vc n ov fv ⟨S.met, S.t.set k x, S.o, S.f⟩ := by
  have hp := put_any w g k (.int .i64 x)
  have h4 := rows_type W.f W.t (by decide)
  exact ⟨W.t.put' W.len x, W.o.far hp (.inr W.sep), W.f.far hp h4, W.sep, W.box.other W.ne.1 _, W.lo, by simpa using W.len⟩
/-- another slice of numbers goes into the box -/
theorem WkSt.seto {ov' : Value} {l : List Int} (W : WkSt w B b g vc n ov fv S) (ho : OwnI w B ov' l) (hs : ov'.ownBlock ≠ some g) : WkSt (w.setCell ⟨b, 3, none⟩ ov') B b g vc n ov' fv ⟨S.met, S.t, l, S.f⟩ := by
  obtain ⟨h1, h2, h3⟩ := W.ne
  have h4 : some b ≠ ov'.ownBlock := row_type ho W.box (by decide)
  have hp := put_any w b 3 ov'
  exact ⟨W.t.far hp (.inr fun e => h1 (Option.some.inj e).symm), ho.far hp (.inr h4.symm), W.f.far hp (.inr h3.symm), hs, W.box.put 3 _, W.lo, W.len⟩
/-- what an append to the numbers leaves as it was -/
theorem WkSt.grow (W : WkSt w B b g vc n ov fv S) {ov' : Value} {l : List Int} (ho : OwnI w' B ov' l) (hg : w.grownBy w' ov.ownBlock) (hq : ov'.ownBlock = ov.ownBlock ∨ ov'.ownBlock = some w.heap.size) : WkSt (w'.setCell ⟨b, 3, none⟩ ov') B b g vc n ov' fv ⟨S.met, S.t, l, S.f⟩ ∧ w'.frozen? ⟨b, 3, none⟩ = false ∧ w'.cell? ⟨b, 3, none⟩ = some ov := by
  obtain ⟨h1, h2, h3⟩ := W.ne
  have bx := W.box.far hg h2
  have ht : OwnI w' B (.slice (some ⟨g, 0, none⟩) n n) S.t := W.t.far hg (.inr fun e => W.sep e.symm)
  have hf : OwnU w' B fv (natsI S.f) := W.f.far hg (rows_type W.f W.o (by decide))
  have h4 : some b ≠ ov'.ownBlock := row_type ho bx (by decide)
  have hp := put_any w' b 3 ov'
  refine ⟨⟨ht.far hp (.inr fun e => h1 (Option.some.inj e).symm), ho.far hp (.inr h4.symm), hf.far hp (.inr h3.symm), ?_, bx.put 3 _, W.lo, W.len⟩, bx.frozen 3, bx.cell 3⟩
  rcases hq with e | e
  · rw [e]; exact W.sep
  · rw [e]
    intro e2
    have := (World.ownsRow.lt W.t g rfl).2
    have := Option.some.inj e2
    omega
theorem WkSt.growf (W : WkSt w B b g vc n ov fv S) {fv' : Value} {l : List Nat} (ho : OwnU w' B fv' (natsI l)) (hg : w.grownBy w' fv.ownBlock) : WkSt (w'.setCell ⟨b, 4, none⟩ fv') B b g vc n ov fv' ⟨S.met, S.t, S.o, l⟩ ∧ w'.frozen? ⟨b, 4, none⟩ = false ∧ w'.cell? ⟨b, 4, none⟩ = some fv := by
  obtain ⟨h1, h2, h3⟩ := W.ne
  have bx := W.box.far hg h3
  have ht : OwnI w' B (.slice (some ⟨g, 0, none⟩) n n) S.t := W.t.far hg (rows_type W.t W.f (by decide))
  have hov : OwnI w' B ov S.o := W.o.far hg (rows_type W.o W.f (by decide))
  have h4 : some b ≠ fv'.ownBlock := row_type ho bx (by decide)
  have hp := put_any w' b 4 fv'
  exact ⟨⟨ht.far hp (.inr fun e => h1 (Option.some.inj e).symm), hov.far hp (.inr h2.symm), ho.far hp (.inr h4.symm), W.sep, bx.put 4 _, W.lo, W.len⟩, bx.frozen 4, bx.cell 4⟩
end

namespace Hps
theorem shutW_lt {l : List Int} {n : Nat} (h : ∀ x ∈ l, ∃ k : Nat, x = k ∧ k < n) (hn : n ≤ 40) : shutW 0 l < 18446744073709551616 := by
  refine Nat.lt_trans (Nat.lt_pow_two_of_testBit (n := 40) _ fun i hi => ?_) (by decide)
  rw [shutW_at _ _ fun x hx => by obtain ⟨k, h1, _⟩ := h x hx; omega]
  have : (i : Int) ∉ l := fun hm => by
    obtain ⟨k, h1, h2⟩ := h _ hm
    omega
  simp [this]
end Hps

theorem index_any (A : Option Addr) (n c : Nat) (x : Int) (pre tl : List Int) (w : World) (h : IS w w.heap.size A n (pre ++ x :: tl)) (hx : x ∉ pre) (_hn : n ≤ 1099511627776) :
    Calls Tryd.prog 153 #[.slice A n c, .int .i64 x] w fun e w' => e = .returned (.int .i64 pre.length) ∧ w = w' := by
  have hl := h.1
  rw [List.length_append, List.length_cons] at hl
  have HX := Lib.hid hx
  clear hx
  go_enter Tryd.func153, Tryd.ntmps153
  go_wp2_with fail
  go_loopw [8] (fun i wr => ∃ k : Nat, k ≤ pre.length ∧ i = .int .i64 k ∧ wr = w) (fun i _ => n - (intOf i).toNat)
  case atStart => exact ⟨0, Nat.zero_le _, rfl, rfl⟩
  case round =>
    obtain ⟨k, hk, rfl, rfl⟩ := hrel
    obtain ⟨g, o, y, rfl, hg, hy, c1⟩ := h.at_ (k := k) (by omega)
    have hlt' : (k : Int) < n := by omega
    rcases Nat.lt_or_ge k pre.length with h1 | h1
    · have hne : (x == y) = false := by
        rw [beq_eq_false_iff_ne]
        rintro rfl
        rw [List.getElem?_append_left h1] at hy
        exact HX.out (List.mem_of_getElem? hy)
      clear hy
      go_wp2_with fail
      go_roundw
      case rel => exact ⟨k + 1, by omega, by go_num, trivial⟩
      case measure => simp [intOf]; omega
    · have hkp : k = pre.length := by omega
      have hxy : y = x := by
        rw [List.getElem?_append_right h1, hkp, Nat.sub_self] at hy
        exact (Option.some.inj hy).symm
      subst hxy
      have HK := Lib.hid hkp
      clear hy hkp
      go_wp2_with fail
      go_ret
      exact ⟨by rw [HK.out]; rfl, rfl⟩

set_option maxHeartbeats 2000000 in
theorem findComponent_any (B b g n : Nat) (vc ov fv : Value) (S : Hps.Tw) (v : Nat) (pre tl : List Int) (w : World) (W : WkSt w B b g vc n ov fv S) (ho : S.o = pre ++ (v : Int) :: tl) (hpre : (v : Int) ∉ pre)
    (hall : ∀ x ∈ (v : Int) :: tl, ∃ k : Nat, x = k ∧ k < n) (hn : n ≤ 40) (hol : S.o.length ≤ 40) (hfl : S.f.length ≤ 40) (hB : B ≤ w.heap.size) :
    Calls Tryd.prog 139 #[.pointer (some ⟨b, 0, none⟩), .int .i64 v] w fun e w' => e = .returned (.tuple #[]) ∧
      ∃ ov' fv', WkSt w' B b g vc n ov' fv' ⟨S.met, Hps.shutT S.t ((v : Int) :: tl), pre, S.f ++ [Hps.shutW 0 ((v : Int) :: tl)]⟩ ∧ Below B w w' := by
  obtain ⟨L, hL⟩ : ∃ L, (v : Int) :: tl = L := ⟨_, rfl⟩
  have HO := Lib.hid ho
  have HOW := W.o
  rw [ho] at HOW
  obtain ⟨A, c, rfl, hA⟩ := HOW.form
  obtain ⟨p, hp⟩ : ∃ p, pre.length = p := ⟨_, rfl⟩
  obtain ⟨q, hq⟩ : ∃ q, L.length = q := ⟨_, rfl⟩
  have hlen : (pre ++ (v : Int) :: tl).length = p + q := by rw [hL, List.length_append, hp, hq]
  have hq1 : 1 ≤ q := by rw [← hq, ← hL]; simp
  rw [hlen] at W HOW hA
  obtain ⟨go, rfl, hgB, hgl⟩ := hA (by omega)
  have hcap := HOW.cap.2
  rw [hL] at hall ⊢
  have hpq : p + q ≤ 40 := by rw [← hlen, ← ho]; exact hol
  have HALL := Lib.hid hall
  have hrd := HOW.reads
  have x3 : w.cell? ⟨b, 3, none⟩ = some (.slice (some ⟨go, 0, none⟩) (p + q : Nat) c) := W.box.cell 3
  have HTL : Hid (∀ (k : Nat) (x : Int), L[k]? = some x → (pre ++ (v : Int) :: tl)[p + k]? = some x) := Lib.hid fun k x hk => by
    rw [hL, List.getElem?_append_right (by omega), ← hk]
    congr 1
    omega
  have hpc : (p : Int) ≤ (p + q : Nat) := by omega
  have hsub : ((p + q : Nat) : Int) - p = q := by omega
  clear hall
  go_enter Tryd.func139, Tryd.ntmps139
  go_wp2_with fail
  refine (index_any _ _ _ (v : Int) pre tl w hrd hpre (by omega)).mono ?_
  rw [hp]
  rintro e w1 ⟨rfl, rfl⟩
  go_wp2_with fail
  go_loopw [5, 21] (fun cv i wr => ∃ k : Nat, k ≤ q ∧ i = .int .i64 k ∧ cv = .int .u64 (Hps.shutW 0 (L.take k) : Nat) ∧ WkSt wr B b g vc n (.slice (some ⟨go, 0, none⟩) (p + q) c) fv ⟨S.met, Hps.shutT S.t (L.take k), S.o, S.f⟩ ∧ Below B w wr) (fun _ i _ => q - (intOf i).toNat)
  case atStart => exact ⟨0, Nat.zero_le _, rfl, rfl, W, Below.refl _ _⟩
  case round =>
    clear W HOW hrd x3 hA
    obtain ⟨k, hk, rfl, rfl, W, bb⟩ := hrel
    have HOW := W.o
    rw [HO.out] at HOW
    have x3 : wr.cell? ⟨b, 3, none⟩ = some (.slice (some ⟨go, 0, none⟩) (p + q : Nat) c) := W.box.cell 3
    have x2 : wr.cell? ⟨b, 2, none⟩ = some (.slice (some ⟨g, 0, none⟩) n n) := W.box.cell 2
    have f3 : wr.frozen? ⟨b, 3, none⟩ = false := W.box.frozen 3
    by_cases hlt : k < q
    · have hxk := List.getElem?_eq_getElem (show k < L.length by omega)
      obtain ⟨kk, hkk, hkn⟩ := HALL.out _ (List.mem_of_getElem? hxk)
      rw [hkk] at hxk
      have hxo := HTL.out k _ hxk
      obtain ⟨g', o', y, e1, _, hy, c1⟩ := HOW.reads.at_ (k := p + k) (by omega)
      injection e1 with e1
      injection e1 with e2 e3
      subst e2 e3
      rw [Nat.zero_add] at c1
      rw [hxo] at hy
      obtain rfl := Option.some.inj hy
      obtain ⟨g', o', y2, e1, _, _, c2⟩ := W.t.reads.at_ (k := kk) hkn
      injection e1 with e1
      injection e1 with e2 e3
      subst e2 e3
      rw [Nat.zero_add] at c2
      have fz : wr.frozen? ⟨g, kk, none⟩ = false := W.t.frozen W.len kk
      have hV := Hps.shutW_lt (l := L.take k) (fun x hx => HALL.out x (List.mem_of_mem_take hx)) hn
      have HT := Lib.hid (take_snocI hxk)
      have hlt' : (k : Int) < q := by omega
      have hkn' : (kk : Int) < n := by omega
      have hkneg : ¬ ((kk : Int) < 0) := by omega
      obtain ⟨p1, p2, p3⟩ := Hps.pow_in (k := kk) (by omega)
      have hor := Hps.or_in (V := Hps.shutW 0 (L.take k)) (k := kk) hV (by omega)
      have SW := Lib.hid (show Hps.shutW 0 (L.take (k + 1)) = Hps.shutW 0 (L.take k) ||| 2 ^ kk by rw [HT.out, Hps.shutW_snoc]; rfl)
      have SS := Lib.hid (show WkSt (wr.setCell ⟨g, kk, none⟩ (.int .i64 41)) B b g vc n (.slice (some ⟨go, 0, none⟩) (p + q) c) fv ⟨S.met, Hps.shutT S.t (L.take (k + 1)), S.o, S.f⟩ by
        have := W.time kk 41
        rw [HT.out, Hps.shutT_snoc]
        exact this)
      have bn := bb.setCell (p := ⟨g, kk, none⟩) (World.ownsRow.lt W.t g rfl).1 (.int .i64 41)
      obtain ⟨V, hVV⟩ : ∃ V, Hps.shutW 0 (L.take k) = V := ⟨_, rfl⟩
      rw [hVV] at hor SW
      have HVV := Lib.hid hVV
      rw [HVV.out]
      clear hxk hkk hxo hVV hV W HOW
      go_wp2_with fail
      go_roundw
      case rel => exact ⟨k + 1, by omega, by go_num, by rw [SW.out], SS.out, bn⟩
      case measure => simp [intOf]; omega
    · obtain rfl : k = q := by omega
      rw [List.take_of_length_le (by omega)] at W ⊢
      have oc := OwnI.cast (show (pre ++ (v : Int) :: tl).take p = pre by rw [← hp]; simp) (HOW.cut (k := p) (by omega))
      have W2 := W.seto oc W.sep
      have b2 := bb.setCell (p := ⟨b, 3, none⟩) W.lo (.slice (some ⟨go, 0, none⟩) p c)
      have hV := Hps.shutW_lt (l := L) HALL.out hn
      obtain ⟨V, hVV⟩ : ∃ V, Hps.shutW 0 L = V := ⟨_, rfl⟩
      rw [hVV] at hV ⊢
      obtain ⟨w2, hw2⟩ : ∃ w2, wr.setCell ⟨b, 3, none⟩ (.slice (some ⟨go, 0, none⟩) p c) = w2 := ⟨_, rfl⟩
      rw [hw2] at W2 b2
      have x4 : w2.cell? ⟨b, 4, none⟩ = some fv := W2.box.cell 4
      have SA := W2.up ((Below.refl w2.heap.size w2).alloc (Nat.le_refl _) (.cells #[.int .u64 V] 72))
      have rr : US (w2.alloc (.cells #[.int .u64 V] 72)) (w2.alloc (.cells #[.int .u64 V] 72)).heap.size (some ⟨w2.heap.size, 0, none⟩) 1 [(V : Int)] := (own_oneU w2 V 0 (Nat.zero_le _)).reads
      have sz2 := b2.size
      have hsz : B ≤ (w2.alloc (.cells #[.int .u64 V] 72)).heap.size := by simp; omega
      have bna := b2.alloc (by omega) (.cells #[.int .u64 V] 72)
      have hpc2 : (p : Int) ≤ c := by omega
      have hfl2 : (natsI S.f).length + 1 ≤ 1099511627776 := by rw [natsI_len]; omega
      clear HOW W oc
      go_wp2_with (at_builtin; refine wpList_appendU rfl (.tmp 49) (.tmp 51) rfl B _ (natsI S.f) rfl SA.f (some ⟨w2.heap.size, 0, none⟩) 1 1 _ [(V : Int)] rfl rr hfl2 hsz ?_; intro v5 w5 o5 g5 _s5; rw [natsI_snoc] at o5; obtain ⟨S5, f5, z5⟩ := SA.growf o5 g5; have bn5 := (bna.grown g5 hsz (fun k hk => (World.ownsRow.lt SA.f k hk).1)).setCell (p := ⟨b, 4, none⟩) SA.lo v5; obtain ⟨A5, c5, e5, _⟩ := o5.form; generalize (natsI (S.f ++ [V])).length = l5 at e5; clear o5 g5; subst e5)
      exact bodyPost_end (results_none rfl _ _ _) rfl ⟨rfl, ⟨_, _, S5⟩, bn5⟩
end Go.Proofs.YtiojoailjiojjaaDoor
