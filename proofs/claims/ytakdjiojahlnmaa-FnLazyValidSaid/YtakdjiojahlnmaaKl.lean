/- What l20Program draws if nothing may be invalid: a valid program. No conditions. -/
import Derived.Test.YtakdjiojahlnmaaKk
namespace Go.Proofs.Ytakdjiojahlnmaa
open Go.RowKit
set_option maxRecDepth 100000

/-- a valid program has been drawn -/
def DrewP0 (w : World) (gr N : Nat) (e : Ending) (w' : World) : Prop :=
  ∃ (v : Value) (l : List Cm), e = .returned v ∧ OwnM w' w.heap.size v l ∧ Hps.okCms l = true ∧ Rd w' gr (N + 600) ∧ w.grownBy w' (some gr)
/-- what is known while instructions are drawn -/
structure DrawSM (w : World) (gr N : Nat) (wr : World) (v : Value) (l : List Cm) : Prop where
  own : OwnM wr w.heap.size v l
  rd : Rd wr gr N
  grown : w.grownBy wr (some gr)
theorem DrawSM.pick {w wr w' : World} {gr N N' : Nat} {v : Value} {l : List Cm} (h : DrawSM w gr N wr v l) (hgr : gr < w.heap.size) (hr : Rd w' gr N') (hg : wr.grownBy w' (some gr)) : DrawSM w gr N' w' v l := by
  refine ⟨h.own.far hg ?_, hr, World.grownBy.trans h.grown hg⟩
  right
  intro e
  have := (World.ownsRow.lt h.own gr e).1
  omega
theorem DrawSM.more {w wr : World} {gr N N' : Nat} {v : Value} {l : List Cm} (h : DrawSM w gr N wr v l) (hN : N ≤ N') : DrawSM w gr N' wr v l := ⟨h.own, h.rd.more hN, h.grown⟩
theorem DrawSM.next {w wr w' : World} {gr N : Nat} {v v' : Value} {l m : List Cm} (h : DrawSM w gr N wr v l) (hgr : gr < w.heap.size) (ho : OwnM w' w.heap.size v' m) (hb : Below w.heap.size wr w') : DrawSM w gr N w' v' m :=
  ⟨ho, h.rd.below hb hgr, grown_below h.grown hb⟩

set_option maxHeartbeats 2000000 in
theorem l20Program_zero (gr N : Nat) (w : World) (h : Rd w gr N) (hN : N ≤ 100000) :
    Calls Try.prog 76 #[.pointer (some ⟨gr, 0, none⟩), .int .i64 0] w (DrewP0 w gr N) := by
  have hgl := h.lt
  have b0 : Below w.heap.size w (w.alloc (.cells #[] 128)) := (Below.refl _ _).alloc (Nat.le_refl _) _
  have st0 : DrawSM w gr N (w.alloc (.cells #[] 128)) (.slice (some ⟨w.heap.size, 0, none⟩) 0 0) [] := ⟨own_noneM w w.heap.size (Nat.le_refl _), h.below b0 hgl, World.grownBy_alloc _ _ _⟩
  clear b0
  go_enter Try.func76, Try.ntmps76
  go_wp2_with fail
  refine (pick_any _ _ _ _ st0.rd (by omega) (by omega)).mono ?_
  rintro e w1 ⟨r1, rfl, a1, c1, hr1, g1⟩
  have c1' : r1 < 41 := by omega
  have st1 := (st0.pick hgl hr1 g1).more (N' := N + 1 + 12 * (40 - r1.toNat)) (by omega)
  clear st0 hr1 g1 c1
  obtain ⟨q, rfl⟩ := Int.eq_ofNat_of_zero_le a1
  simp only [Int.toNat_natCast] at st1
  clear a1
  go_wp2_with fail
  go_loopw [5, 6] (fun v i wr => ∃ (k : Nat) (l : List Cm), k ≤ 40 ∧ i = .int .i64 k ∧ l.length + k ≤ 40 ∧ Hid (∀ o ∈ l, Hps.okCm o = true) ∧ DrawSM w gr (N + 1 + 12 * (40 - k)) wr v l) (fun _ i _ => (intOf i).toNat)
  case atStart => exact ⟨q, [], by omega, rfl, by simp; omega, Lib.hid (by simp), st1⟩
  case round =>
    clear st1
    obtain ⟨k, l, hk, rfl, hl, HL, st⟩ := hrel
    by_cases hk0 : 0 < k
    · have hk0' : (0 : Int) < k := by omega
      have S := Lib.hid st
      clear st
      go_wp2_with fail
      refine (l20Command_any _ _ 0 _ S.out.rd (by omega) (by omega) (by omega)).mono ?_
      rintro e w2 ⟨o, rfl, ho, -, hr2, g2⟩
      have st2 := (S.out.pick hgl hr2 g2).more (N' := N + 1 + 12 * (40 - (k - 1))) (by omega)
      have HO := Lib.hid (ho rfl)
      clear S hr2 g2 ho
      have hs4 := st2.grown.size
      have ow := World.ownsRow.alloc st2.own (.cells #[.int .i64 o.op, .int .i64 o.a, .int .i64 o.b, .int .i64 o.c] 128)
      have rr : MS (w2.alloc (.cells #[.int .i64 o.op, .int .i64 o.a, .int .i64 o.b, .int .i64 o.c] 128)) (w2.alloc (.cells #[.int .i64 o.op, .int .i64 o.a, .int .i64 o.b, .int .i64 o.c] 128)).heap.size (some ⟨w2.heap.size, 0, none⟩) 1 [o] := (own_oneM w2 o 0 (Nat.zero_le _)).reads
      have hln : l.length + 1 ≤ 1099511627776 := by omega
      go_wp2_with (at_builtin; refine wpList_appendM rfl (.tmp 14) (.tmp 17) rfl w.heap.size _ l rfl ow (some ⟨w2.heap.size, 0, none⟩) 1 1 _ [o] rfl rr hln (by simp; omega) ?_; intro v5 w5 o5 g5 s5)
      have bn : Below w.heap.size w2 w5 := ((Below.refl w.heap.size w2).alloc hs4 _).grown g5 (by simp; omega) (fun k hk => (World.ownsRow.lt st2.own k hk).1)
      have st5 := st2.next hgl o5 bn
      clear ow rr g5 s5 o5 bn st2
      go_roundw
      case rel => exact ⟨k - 1, l ++ [o], by omega, int_eq (by omega), by simp; omega, Lib.hid (by intro x hx; rcases List.mem_append.1 hx with hx | hx; exact HL.out x hx; rw [List.mem_singleton] at hx; rw [hx]; exact HO.out), st5⟩
      case measure => simp [intOf]; omega
    · obtain rfl : k = 0 := by omega
      have S := Lib.hid st
      have R := Lib.hid st.rd
      have hok := Lib.hid (Hps.okCms_iff.2 ⟨HL.out, by omega⟩)
      clear st HL
      go_wp2_with fail
      refine (odd_zero' _ _ _ R.out).mono ?_
      rintro e w' ⟨rfl, rfl⟩
      go_wp2_with fail
      go_ret
      exact ⟨_, l, rfl, S.out.own, hok.out, S.out.rd.more (by omega), S.out.grown⟩
end Go.Proofs.Ytakdjiojahlnmaa
