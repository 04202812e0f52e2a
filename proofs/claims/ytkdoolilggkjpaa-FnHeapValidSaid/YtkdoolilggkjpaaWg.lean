/- What DrawNewBlocks, sameBlocks and alive return, and that the law of NewBlocks (P16) returns true; for every list of bytes. -/
import Derived.Test.YtkdoolilggkjpaaDraw
namespace Go.Proofs.Ytkdoolilggkjpaa
open Go.RowKit

/-- a number between lo and hi -/
def SomeInt (w : World) (lo hi : Int) (e : Ending) (w' : World) : Prop := ∃ t : Int, e = .returned (.int .i64 t) ∧ lo ≤ t ∧ t ≤ hi ∧ Below w.heap.size w w'

theorem grown_cell {w w' : World} {g : Nat} (hg : w.grownBy w' (some g)) (b o : Nat) (hb : b < w.heap.size) (hne : b ≠ g) : w'.cell? ⟨b, o, none⟩ = w.cell? ⟨b, o, none⟩ :=
  World.cell?_of_block (hg.block b hb (fun e => hne (by injection e)))

/-- '!=' on two blocks -/
theorem run_neq_block (x y : Bl) (w : World) : (binOp .neq 63 (.agg #[.int .i64 x.s, .int .i64 x.z, .bool x.u]) (.agg #[.int .i64 y.s, .int .i64 y.z, .bool y.u])).run Try.prog w = .ok (.bool (!eqB x y)) w := by
  have u3 := Try.underlying3
  have a3 := Try.isAgg3
  have z3 := Try.sizeOf3
  have u4 := Try.underlying4
  have a4 := Try.isAgg4
  have z4 := Try.sizeOf4
  have hS : Try.prog.underlying 63 = some (.struct (Try.prog.fieldsOf 63)) := by kernel_rfl
  have hp : Try.prog.stoodInHeld 63 = false := by kernel_rfl
  rw [run_neq_struct, show (10000 : Nat) = 9999 + 1 from rfl, run_equalIn_agg w 9999 63 _ _ hS hp, eqB_eq]
  simp only [Program.fieldsOf, Try.underlying63]
  go_simp
  by_cases h1 : x.s = y.s <;> by_cases h2 : x.z = y.z <;> by_cases h3 : x.u = y.u <;> simp [h1, h2, h3]

theorem alive_any (w : World) : Calls Try.prog 15 #[] w fun e w' => e = .returned (.bool true) ∧ Below w.heap.size w w' := by
  have ho := own_one w 0 3 false w.heap.size (Nat.le_refl _)
  have hi : AllI [⟨0, 3, false⟩] := by
    intro k x hx
    match k, hx with
    | 0, hx =>
      simp at hx
      subst hx
      unfold I64
      constructor <;> constructor <;> simp
    | k + 1, hx => simp at hx
  have hf : Bks.freeW [⟨0, 3, false⟩] 3 = 3 := by decide
  have HF := Lib.hid hf
  clear hf
  go_enter Try.func15, Try.ntmps15
  go_wp2_with fail
  refine (freeWords_any _ _ _ [⟨0, 3, false⟩] _ _ (ho.reads hi) (by omega)).mono ?_
  rw [HF.out]
  rintro e w1 ⟨rfl, b1⟩
  go_wp2_with fail
  go_ret
  exact ⟨rfl, ((Below.refl w.heap.size w).alloc (Nat.le_refl _) _).trans (b1.mono (by simp))⟩

theorem one_valid (t : Int) (h1 : 1 ≤ t) (h2 : t ≤ 256) : Bks.validB [⟨0, t, false⟩] t = true := by
  rw [Bks.valid_iff]
  refine ⟨fun k hk => ?_, h1, h2, by simp [Bks.offs]⟩
  have : k = 0 := by simpa using hk
  subst this
  rw [Bks.stepOk_iff _ 0 ⟨0, t, false⟩ rfl]
  exact ⟨by simp [Bks.offs], h1, h2, .inl rfl⟩

end Go.Proofs.Ytkdoolilggkjpaa
