/- What DrawNewBlocks, sameBlocks and alive return, and that the law of NewBlocks (P16) returns true; for every list of bytes. -/
import Derived.Test.YtkejbggffbkdaaaDraw
namespace Go.Proofs.Ytkejbggffbkdaaa
open Go.RowKit

/-- a number between lo and hi -/
def SomeInt (w : World) (lo hi : Int) (e : Ending) (w' : World) : Prop := ∃ t : Int, e = .returned (.int .i64 t) ∧ lo ≤ t ∧ t ≤ hi ∧ Below w.heap.size w w'

theorem grown_cell {w w' : World} {g : Nat} (hg : w.grownBy w' (some g)) (b o : Nat) (hb : b < w.heap.size) (hne : b ≠ g) : w'.cell? ⟨b, o, none⟩ = w.cell? ⟨b, o, none⟩ :=
  World.cell?_of_block (hg.block b hb (fun e => hne (by injection e)))

/-- '!=' on two blocks -/
theorem run_neq_block (x y : Bl) (w : World) : (binOp .neq 32 (.agg #[.int .i64 x.s, .int .i64 x.z, .bool x.u]) (.agg #[.int .i64 y.s, .int .i64 y.z, .bool y.u])).run Try.prog w = .ok (.bool (!eqB x y)) w := by
  have u3 := Try.underlying3
  have a3 := Try.isAgg3
  have z3 := Try.sizeOf3
  have u4 := Try.underlying4
  have a4 := Try.isAgg4
  have z4 := Try.sizeOf4
  have hS : Try.prog.underlying 32 = some (.struct (Try.prog.fieldsOf 32)) := by kernel_rfl
  have hp : Try.prog.stoodInHeld 32 = false := by kernel_rfl
  rw [run_neq_struct, show (10000 : Nat) = 9999 + 1 from rfl, run_equalIn_agg w 9999 32 _ _ hS hp, eqB_eq]
  simp only [Program.fieldsOf, Try.underlying32]
  go_simp
  by_cases h1 : x.s = y.s <;> by_cases h2 : x.z = y.z <;> by_cases h3 : x.u = y.u <;> simp [h1, h2, h3]

theorem sameBlocks_any (A B : Option Addr) (n m c d : Nat) (xs ys : List Bl) (w : World) (h : BS w w.heap.size A n xs) (h' : BS w w.heap.size B m ys) (hn : n ≤ 1099511627776) (hm : m ≤ 1099511627776) :
    Calls Try.prog 19 #[.slice A n c, .slice B m d] w fun e w' => e = .returned (.bool (decide (xs = ys))) ∧ Below w.heap.size w w' := by
  have HL := Lib.hid h.1
  have HL' := Lib.hid h'.1
  by_cases hnm : n = m
  · subst hnm
    go_enter Try.func19, Try.ntmps19
    go_wp2
    go_loopw [5] (fun i wr => ∃ (k : Nat), k ≤ n ∧ i = .int .i64 k ∧ Hid (xs.take k = ys.take k) ∧ Below w.heap.size w wr) (fun i _ => n - (intOf i).toNat)
    case atStart => exact ⟨0, Nat.zero_le _, rfl, by simp [Hid], Below.refl _ _⟩
    case round =>
      obtain ⟨k, hk, rfl, hpre, hb⟩ := hrel
      by_cases hlt : k < n
      · obtain ⟨g, o, x, rfl, hg, hx, ⟨i1, i2⟩, ⟨i3, i4⟩, c1, c2, c3⟩ := (h.below hb).at_ hlt
        obtain ⟨g', o', y, rfl, hg', hx', ⟨i1', i2'⟩, ⟨i3', i4'⟩, c1', c2', c3'⟩ := (h'.below hb).at_ hlt
        have HX := Lib.hid hx
        have HX' := Lib.hid hx'
        have hlt' : (k : Int) < n := by omega
        clear hx hx'
        have hneq := fun W => run_neq_block x y W
        cases he : eqB x y
        all_goals
          rw [he] at hneq
          have HE := Lib.hid he
          clear he
          go_wp2_with fail
          go_quiet (fail)
          clear hneq
          go_wp2
        · go_ret
          exact ⟨ret_bool (ne_of_at HX.out HX'.out HE.out).symm, below_drewN hb _⟩
        · go_roundw
          case rel => exact ⟨k + 1, by omega, by go_num, Lib.hid (take_eq_succ hpre.out HX.out HX'.out HE.out), below_drewN hb _⟩
          case measure => simp [intOf]; omega
      · have hkn : k = n := by omega
        have HK := Lib.hid hkn
        clear hkn
        go_wp2
        go_ret
        refine ⟨ret_bool ?_, hb⟩
        have hp := hpre.out
        rw [HK.out, List.take_of_length_le (by rw [HL.out]; omega), List.take_of_length_le (by rw [HL'.out]; omega)] at hp
        simp [hp]
  · have hne : ((n : Int) != m) = true := by rw [bne_iff_ne]; omega
    have HN := Lib.hid hnm
    clear hnm
    go_enter Try.func19, Try.ntmps19
    go_wp2
    go_ret
    refine ⟨ret_bool ?_, Below.refl _ _⟩
    simp
    rintro rfl
    exact HN.out (HL.out.symm.trans HL'.out)

theorem alive_any (w : World) : Calls Try.prog 13 #[] w fun e w' => e = .returned (.bool true) ∧ Below w.heap.size w w' := by
  have ho := own_one w 0 3 false w.heap.size (Nat.le_refl _)
  have hi : AllI [⟨0, 3, false⟩] := by
    intro k x hx
    match k, hx with
    | 0, hx =>
      simp at hx
      subst hx
      unfold I64
      constructor <;> constructor <;> simp
    | k + 1, hx => simp at hx
  have hf : Bks.freeW [⟨0, 3, false⟩] 3 = 3 := by decide
  have HF := Lib.hid hf
  clear hf
  go_enter Try.func13, Try.ntmps13
  go_wp2_with fail
  refine (freeWords_any _ _ _ [⟨0, 3, false⟩] _ _ (ho.reads hi) (by omega)).mono ?_
  rw [HF.out]
  rintro e w1 ⟨rfl, b1⟩
  go_wp2_with fail
  go_ret
  exact ⟨rfl, ((Below.refl w.heap.size w).alloc (Nat.le_refl _) _).trans (b1.mono (by simp))⟩

theorem one_valid (t : Int) (h1 : 1 ≤ t) (h2 : t ≤ 256) : Bks.validB [⟨0, t, false⟩] t = true := by
  rw [Bks.valid_iff]
  refine ⟨fun k hk => ?_, h1, h2, by simp [Bks.offs]⟩
  have : k = 0 := by simpa using hk
  subst this
  rw [Bks.stepOk_iff _ 0 ⟨0, t, false⟩ rfl]
  exact ⟨by simp [Bks.offs], h1, h2, .inl rfl⟩

end Go.Proofs.Ytkejbggffbkdaaa
