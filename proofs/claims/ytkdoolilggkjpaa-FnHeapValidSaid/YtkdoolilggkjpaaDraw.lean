/- How the laws' inputs are drawn from bytes: what the reader l20Rd is in memory, and what l20Open, pick and odd do. No conditions. -/
import Derived.Test.YtkdoolilggkjpaaWf
import Derived.Laws.BitsAllLaws
import Derived.Laws.BitsLemmas
import Derived.Deep.Slices
namespace Go.Proofs.Ytkdoolilggkjpaa
open Go.RowKit

/-- a slice of bytes that lies below block B -/
def Bytes (w : World) (B : Nat) (A : Option Addr) (m : Nat) : Prop :=
  0 < m → ∃ b o, A = some ⟨b, o, none⟩ ∧ b < B ∧ ∀ i, i < m → ∃ v : Int, 0 ≤ v ∧ v ≤ 255 ∧ w.cell? ⟨b, o + i, none⟩ = some (.int .u8 v)

theorem Bytes.keep {w w' : World} {B m : Nat} {A : Option Addr} (h : Bytes w B A m) (hk : ∀ p : Addr, p.block < B → w'.cell? p = w.cell? p) : Bytes w' B A m := fun hm => by
  obtain ⟨b, o, e, hb, hc⟩ := h hm
  refine ⟨b, o, e, hb, fun i hi => ?_⟩
  obtain ⟨v, h0, h1, h2⟩ := hc i hi
  exact ⟨v, h0, h1, (hk _ hb).trans h2⟩

/-- block g holds a reader that has read at most N times -/
def Rd (w : World) (g N : Nat) : Prop := ∃ (A : Option Addr) (m c p : Nat), Rw w g 84 #[.slice A m c, .int .i64 p] ∧ m ≤ 2000 ∧ p ≤ N ∧ Bytes w g A m

theorem Rd.lt {w : World} {g N : Nat} (h : Rd w g N) : g < w.heap.size := by
  obtain ⟨_, _, _, _, h, _⟩ := h
  exact h.lt
theorem Rd.more {w : World} {g N N' : Nat} (h : Rd w g N) (hN : N ≤ N') : Rd w g N' := by
  obtain ⟨A, m, c, p, h, h1, h2, h3⟩ := h
  exact ⟨A, m, c, p, h, h1, by omega, h3⟩
theorem Rd.below {w w' : World} {g N B : Nat} (h : Rd w g N) (hb : Below B w w') (hB : g < B) : Rd w' g N := by
  obtain ⟨A, m, c, p, h, h1, h2, h3⟩ := h
  exact ⟨A, m, c, p, h.keep hb hB, h1, h2, h3.keep fun q hq => hb.cell (by omega)⟩

/-- a number below n has been read; nothing but the reader has changed -/
def Picked (w : World) (g : Nat) (n : Int) (N : Nat) (e : Ending) (w' : World) : Prop :=
  ∃ r : Int, e = .returned (.int .i64 r) ∧ 0 ≤ r ∧ (r < n ∨ (n < 1 ∧ r = 0)) ∧ Rd w' g (N + 1) ∧ w.grownBy w' (some g)

/-- a reader whose bytes are told by F -/
def RdX (w : World) (g : Nat) (A : Option Addr) (m c p : Nat) (F : Nat → Int) : Prop :=
  Rw w g 84 #[.slice A m c, .int .i64 p] ∧ m ≤ 2000 ∧ (0 < m → ∃ b o, A = some ⟨b, o, none⟩ ∧ b < g ∧ ∀ i, i < m → 0 ≤ F i ∧ F i ≤ 255 ∧ w.cell? ⟨b, o + i, none⟩ = some (.int .u8 (F i)))

theorem Rd.told {w : World} {g N : Nat} (h : Rd w g N) : ∃ A m c p F, RdX w g A m c p F ∧ p ≤ N := by
  obtain ⟨A, m, c, p, hr, hm, hp, hb⟩ := h
  rcases Nat.eq_zero_or_pos m with h0 | h0
  · exact ⟨A, m, c, p, fun _ => 0, ⟨hr, hm, fun h => by omega⟩, hp⟩
  · obtain ⟨b, o, e, hbg, hc⟩ := hb h0
    obtain ⟨F, hF⟩ := Deep.choose_lt hc
    exact ⟨A, m, c, p, F, ⟨hr, hm, fun _ => ⟨b, o, e, hbg, hF⟩⟩, hp⟩

theorem RdX.rd {w : World} {g m c p N : Nat} {A : Option Addr} {F : Nat → Int} (h : RdX w g A m c p F) (hp : p ≤ N) : Rd w g N := by
  refine ⟨A, m, c, p, h.1, h.2.1, hp, fun h0 => ?_⟩
  obtain ⟨b, o, e, hb, hc⟩ := h.2.2 h0
  exact ⟨b, o, e, hb, fun i hi => ⟨F i, hc i hi⟩⟩

theorem RdX.below {w w' : World} {g m c p B : Nat} {A : Option Addr} {F : Nat → Int} (h : RdX w g A m c p F) (hb : Below B w w') (hB : g < B) : RdX w' g A m c p F := by
  refine ⟨h.1.keep hb hB, h.2.1, fun h0 => ?_⟩
  obtain ⟨b, o, e, hbg, hc⟩ := h.2.2 h0
  refine ⟨b, o, e, hbg, fun i hi => ?_⟩
  obtain ⟨h1, h2, h3⟩ := hc i hi
  exact ⟨h1, h2, (hb.cell (p := ⟨b, o + i, none⟩) (by show b < B; omega)).trans h3⟩

/-- what pick returns -/
def mixV (F : Nat → Int) (m p : Nat) : Int := F (p % m) * 131 + F ((p * 7 + 3) % m) * 1117 + p * 29 + (p / m : Nat) * 53
def pickV (F : Nat → Int) (m p : Nat) (n : Int) : Int :=
  if n < 1 ∨ m = 0 then 0 else if p < m then F p % n else (bits .xor .i64 (mixV F m p) (mixV F m p / 64)).tmod n

def PickedX (w : World) (g : Nat) (A : Option Addr) (m c p : Nat) (F : Nat → Int) (n : Int) (e : Ending) (w' : World) : Prop :=
  e = .returned (.int .i64 (pickV F m p n)) ∧ RdX w' g A m c (p + 1) F ∧ w.grownBy w' (some g)

theorem pickedX_of {w w' : World} {g m c p : Nat} {n : Int} {A : Option Addr} {F : Nat → Int} {r : Int} {k : Nat} (h : RdX w g A m c p F)
    (hr : r = pickV F m p n) (hw : w' = (w.setCell ⟨g, 1, none⟩ (.int .i64 ((p + 1 : Nat) : Int))).drewN k) : PickedX w g A m c p F n (.returned (.int .i64 r)) w' := by
  subst hw
  have hrow : Rw (w.setCell ⟨g, 1, none⟩ (.int .i64 ((p + 1 : Nat) : Int))) g 84 #[.slice A m c, .int .i64 ((p + 1 : Nat) : Int)] := h.1.put 1 _
  have hg : w.grownBy (w.setCell ⟨g, 1, none⟩ (.int .i64 ((p + 1 : Nat) : Int))) (some g) := only_put (World.grownBy.refl _ _) 1 _
  refine ⟨by rw [hr], ⟨hrow, h.2.1, fun h0 => ?_⟩, ⟨hg.os, hg.tape, hg.output, hg.size, hg.block⟩⟩
  obtain ⟨b, o, e, hbg, hc⟩ := h.2.2 h0
  refine ⟨b, o, e, hbg, fun i hi => ?_⟩
  obtain ⟨h1, h2, h3⟩ := hc i hi
  exact ⟨h1, h2, (World.cell?_setCell_other w ⟨g, 1, none⟩ ⟨b, o + i, none⟩ _ (fun e => by injection e with e1; omega)).trans h3⟩

theorem xor_nonneg (x y : Int) (hx : 0 ≤ x) (hx' : x < 9223372036854775808) (hy : 0 ≤ y) (hy' : y < 9223372036854775808) : 0 ≤ bits .xor .i64 x y := by
  obtain ⟨a, rfl⟩ := Int.eq_ofNat_of_zero_le hx
  obtain ⟨b, rfl⟩ := Int.eq_ofNat_of_zero_le hy
  have ea : (BitVec.ofInt 64 (a : Int)).toNat = a := by rw [BitVec.ofInt_natCast, BitVec.toNat_ofNat]; exact Nat.mod_eq_of_lt (by omega)
  have eb : (BitVec.ofInt 64 (b : Int)).toNat = b := by rw [BitVec.ofInt_natCast, BitVec.toNat_ofNat]; exact Nat.mod_eq_of_lt (by omega)
  have hlt : a ^^^ b < 2 ^ 63 := Nat.xor_lt_two_pow (by omega) (by omega)
  show 0 ≤ IntKind.i64.wrap ((BitVec.ofInt 64 (a : Int) ^^^ BitVec.ofInt 64 (b : Int)).toNat : Int)
  rw [BitVec.toNat_xor, ea, eb, IntKind.wrap_i64]
  omega

set_option maxHeartbeats 1000000 in
theorem pick_exact (g : Nat) (A : Option Addr) (m c p : Nat) (F : Nat → Int) (n : Int) (w : World) (hX : RdX w g A m c p F) (hp : p ≤ 1099511627776) (hn : n ≤ 1099511627776) :
    Calls Try.prog 64 #[.pointer (some ⟨g, 0, none⟩), .int .i64 n] w (PickedX w g A m c p F n) := by
  have HX := Lib.hid hX
  obtain ⟨hr, hm, hb⟩ := hX
  have c0 := hr.cell 0
  have c1 := hr.cell 1
  have f1 := hr.frozen 1
  simp at c0 c1
  by_cases hn1 : n < 1
  · go_enter Try.func64, Try.ntmps64
    go_wp2
    go_ret
    exact pickedX_of (k := 0) HX.out (by rw [pickV, if_pos (.inl hn1)]) rfl
  · rcases Nat.eq_zero_or_pos m with hm0 | hm0
    · subst hm0
      go_enter Try.func64, Try.ntmps64
      go_wp2
      go_ret
      exact pickedX_of (k := 0) HX.out (by rw [pickV, if_pos (.inr rfl)]) rfl
    · obtain ⟨b, o, rfl, hbg, hc⟩ := hb hm0
      have hmb : ((m : Int) == 0) = false := beq_eq_false_iff_ne.2 (by omega)
      have hnb : (n == 0) = false := beq_eq_false_iff_ne.2 (by omega)
      have hbne : b ≠ g := by omega
      by_cases hpm : p < m
      · have HV := Lib.hid (show pickV F m p n = F p % n by rw [pickV, if_neg (by omega), if_pos hpm])
        obtain ⟨v0, v1, hv⟩ := hc p hpm
        clear hc hb
        generalize F p = v at HV v0 v1 hv
        go_enter Try.func64, Try.ntmps64
        go_wp2
        go_ret
        exact pickedX_of (k := 0) HX.out HV.out.symm rfl
      · have HV := Lib.hid (show pickV F m p n = (bits .xor .i64 (mixV F m p) (mixV F m p / 64)).tmod n by rw [pickV, if_neg (by omega), if_neg hpm])
        have HM := Lib.hid (show mixV F m p = F (p % m) * 131 + F ((p * 7 + 3) % m) * 1117 + p * 29 + (p / m : Nat) * 53 from rfl)
        have l0 : p % m < m := Nat.mod_lt _ hm0
        have l1 : (p * 7 + 3) % m < m := Nat.mod_lt _ hm0
        have l2 : p / m ≤ p := Nat.div_le_self _ _
        have e1 : ((p : Int)).tmod m = (p % m : Nat) := by rw [Int.tmod_eq_emod_of_nonneg (by omega)]; omega
        have e4 : ((p : Int) * 7 + 3).tmod m = ((p * 7 + 3) % m : Nat) := by rw [Int.tmod_eq_emod_of_nonneg (by omega)]; rw [Int.natCast_emod]; congr 1
        have e5 : ((p : Int)).tdiv m = (p / m : Nat) := by rw [Int.tdiv_eq_ediv_of_nonneg (by omega)]; omega
        generalize p % m = i0 at l0 e1 HM
        generalize (p * 7 + 3) % m = i1 at l1 e4 HM
        generalize p / m = i2 at l2 e5 HM
        obtain ⟨v0, v1, hv⟩ := hc i0 l0
        obtain ⟨u0, u1, hu⟩ := hc i1 l1
        clear hc hb
        generalize F i0 = v at HM v0 v1 hv
        generalize F i1 = u at HM u0 u1 hu
        have l0' : (i0 : Int) < m := by omega
        have l1' : (i1 : Int) < m := by omega
        have e2 : IntKind.i64.wrap ((p : Int) * 7) = p * 7 := IntWalk.i64_in _ (by omega)
        have e3 : IntKind.i64.wrap ((p : Int) * 7 + 3) = p * 7 + 3 := IntWalk.i64_in _ (by omega)
        have e6 : IntKind.i64.wrap (v * 131) = v * 131 := IntWalk.i64_in _ (by omega)
        have e7 : IntKind.i64.wrap (u * 1117) = u * 1117 := IntWalk.i64_in _ (by omega)
        have e8 : IntKind.i64.wrap (v * 131 + u * 1117) = v * 131 + u * 1117 := IntWalk.i64_in _ (by omega)
        have e9 : IntKind.i64.wrap ((p : Int) * 29) = p * 29 := IntWalk.i64_in _ (by omega)
        have e10 : IntKind.i64.wrap (v * 131 + u * 1117 + p * 29) = v * 131 + u * 1117 + p * 29 := IntWalk.i64_in _ (by omega)
        have e11 : IntKind.i64.wrap ((i2 : Int) * 53) = i2 * 53 := IntWalk.i64_in _ (by omega)
        have e12 : IntKind.i64.wrap (v * 131 + u * 1117 + p * 29 + i2 * 53) = v * 131 + u * 1117 + p * 29 + i2 * 53 := IntWalk.i64_in _ (by omega)
        go_enter Try.func64, Try.ntmps64
        go_wp2_with fail
        go_quiet (fail)
        clear e1 e2 e3 e4 e5 e6 e7 e8 e9 e10 e11 e12
        go_wp2_with fail
        go_ret
        exact pickedX_of (k := nq) HX.out (by rw [HV.out, HM.out]) rfl

theorem pickV_range {w : World} {g m c p : Nat} {A : Option Addr} {F : Nat → Int} (h : RdX w g A m c p F) (hp : p ≤ 1099511627776) (n : Int) : 0 ≤ pickV F m p n ∧ (pickV F m p n < n ∨ (n < 1 ∧ pickV F m p n = 0)) := by
  unfold pickV
  split
  · next h0 => omega
  · next h0 =>
    have hm0 : 0 < m := by omega
    obtain ⟨b, o, _, _, hc⟩ := h.2.2 hm0
    split
    · exact ⟨Int.emod_nonneg _ (by omega), .inl (Int.emod_lt_of_pos _ (by omega))⟩
    · have f0 := hc (p % m) (Nat.mod_lt _ hm0)
      have f1 := hc ((p * 7 + 3) % m) (Nat.mod_lt _ hm0)
      have f2 : p / m ≤ p := Nat.div_le_self _ _
      have hmix : 0 ≤ mixV F m p ∧ mixV F m p < 4611686018427387904 := by
        unfold mixV
        generalize p / m = q at f2
        omega
      have hx := xor_nonneg (mixV F m p) (mixV F m p / 64) (by omega) (by omega) (by omega) (by omega)
      exact ⟨Int.tmod_nonneg _ hx, .inl (Int.tmod_lt_of_pos _ (by omega))⟩

theorem pick_any (g N : Nat) (n : Int) (w : World) (h : Rd w g N) (hN : N ≤ 1099511627776) (hn : n ≤ 1099511627776) :
    Calls Try.prog 64 #[.pointer (some ⟨g, 0, none⟩), .int .i64 n] w (Picked w g n N) := by
  obtain ⟨A, m, c, p, F, hX, hp⟩ := h.told
  refine (pick_exact g A m c p F n w hX (by omega) hn).mono ?_
  rintro e w' ⟨rfl, hX', hg⟩
  have hr := pickV_range hX (by omega) n
  exact ⟨_, rfl, hr.1, hr.2, hX'.rd (by omega), hg⟩

/-- whether an odd case is drawn -/
def Odded (w : World) (g : Nat) (N : Nat) (e : Ending) (w' : World) : Prop :=
  ∃ b : Bool, e = .returned (.bool b) ∧ Rd w' g (N + 1) ∧ w.grownBy w' (some g)

theorem odd_any (g N : Nat) (n : Int) (w : World) (h : Rd w g N) (hN : N ≤ 1099511627776) (hn1 : 1 ≤ n) (hn : n ≤ 1099511627776) :
    Calls Try.prog 66 #[.pointer (some ⟨g, 0, none⟩), .int .i64 n] w (Odded w g N) := by
  go_enter Try.func66, Try.ntmps66
  go_wp2_with fail
  refine (pick_any g N n _ h hN hn).mono ?_
  rintro e w1 ⟨r, rfl, r0, r1, hr, hg⟩
  have HR := Lib.hid r1
  clear r1
  go_wp2
  go_ret
  exact ⟨_, rfl, hr, hg⟩

/-- a reader of its own has been made -/
def Opened (w : World) (e : Ending) (w' : World) : Prop := e = .returned (.pointer (some ⟨w.heap.size, 0, none⟩)) ∧ Rd w' w.heap.size 0 ∧ Below w.heap.size w w'

theorem open_any (A : Option Addr) (n c : Nat) (w : World) (h : Bytes w w.heap.size A n) (hc : n ≤ c) (hn : n ≤ 9223372036854775807) :
    Calls Try.prog 41 #[.slice A n c] w (Opened w) := by
  by_cases h2 : n ≤ 2000
  · go_enter Try.func41, Try.ntmps41
    go_wp2
    go_ret
    exact ⟨rfl, ⟨A, n, c, 0, Rw.new _ _ _, h2, Nat.le_refl _, h.keep fun p hp => ((Below.refl w.heap.size w).alloc (Nat.le_refl _) _).cell hp⟩, (Below.refl _ _).alloc (Nat.le_refl _) _⟩
  · obtain ⟨b, o, rfl, hb, hcell⟩ := h (by omega)
    have HC := Lib.hid hcell
    clear hcell
    go_enter Try.func41, Try.ntmps41
    go_wp2
    go_ret
    exact ⟨rfl, ⟨_, 2000, c, 0, Rw.new _ _ _, Nat.le_refl _, Nat.le_refl _, fun _ => ⟨b, o, rfl, hb, fun i hi => by
      obtain ⟨v, a0, a1, a2⟩ := HC.out i (by omega)
      exact ⟨v, a0, a1, (((Below.refl w.heap.size w).alloc (Nat.le_refl _) _).cell (p := ⟨b, o + i, none⟩) hb).trans a2⟩⟩⟩, (Below.refl _ _).alloc (Nat.le_refl _) _⟩
end Go.Proofs.Ytkdoolilggkjpaa
