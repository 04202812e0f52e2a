/- What the program's putTargets and putCell do to the encoder. No conditions. -/
import Derived.Test.YtbcefmkgifkjiaaVo
import Derived.Test.YtbcefmkgifkjiaaHh
import Derived.Deep.Cut
namespace Go.Proofs.Ytbcefmkgifkjiaa
open Go.RowKit
set_option maxRecDepth 100000

theorem Hps.okRefs_take {cs : List Cl} {rs : List Int} (h : Hps.okRefs cs rs = true) (k : Nat) : Hps.okRefs cs (rs.take k) = true := Hps.okRefs_iff.2 fun x hx => Hps.okRefs_iff.1 h x (List.mem_of_mem_take hx)
/-- what has been done in a region, with all that it waits for -/
def Shut (ps : List (Nat × Nat)) (L : Nat → Bool) : Prop := ∀ p ∈ ps, L p.1 = true → L p.2 = true
theorem Shut.get {ps : List (Nat × Nat)} {L : Nat → Bool} {i j : Nat} (h : Shut ps L) (hp : (i, j) ∈ ps) (hi : L i = true) : L j = true := h _ hp hi
theorem Shut.step {ps : List (Nat × Nat)} {L : Nat → Bool} {i : Nat} (h : Shut ps L) (hd : ∀ p ∈ ps, p.1 = i → L p.2 = true) : Shut ps (upd L i) := by
  intro p hp hi
  by_cases e : p.1 = i
  · exact upd_mono (hd p hp e)
  · exact upd_mono (h p hp (upd_ne hi e))

set_option maxHeartbeats 4000000 in
theorem putTargets_any {w0 w1 : World} {b n : Nat} {ov nv vv : Value} {l vs ts : List Int} {cs : List Cl} (S : EncX w0 w1 b ov nv vv l (Hps.numsL l n) vs) (hn : n ≤ 1000) (hc : cs.length = n) (hi : Hps.InB cs l) (hd : l.Nodup) (A : Option Addr) (m c : Nat) (hs : IS w0 w0.heap.size A m ts) (hm : m ≤ 1000000) (ho : Hps.okRefs cs ts = true) (hv : vs.length ≤ 1000000) :
    Calls Try.prog 76 #[.pointer (some ⟨b, 0, none⟩), .slice A m c] w1 fun e w' => (∃ v, e = .returned v) ∧ ∃ ov' vv', EncX w0 w' b ov' nv vv' (Hps.meet l ts) (Hps.numsL (Hps.meet l ts) n) (vs ++ Hps.seenL l ts) := by
  have HO := Lib.hid ho
  have HI := Lib.hid hi
  have HD := Lib.hid hd
  have HC := Lib.hid hc
  have hlm := hs.1
  clear ho hi hd hc
  go_enter Try.func76, Try.ntmps76
  go_wp2_with fail
  go_loopw [8] (fun i wr => ∃ (k : Nat) (ov vv : Value), k ≤ m ∧ i = .int .i64 k ∧ EncX w0 wr b ov nv vv (Hps.meet l (ts.take k)) (Hps.numsL (Hps.meet l (ts.take k)) n) (vs ++ Hps.seenL l (ts.take k))) (fun i _ => m - (intOf i).toNat)
  case atStart => exact ⟨0, ov, vv, Nat.zero_le _, rfl, by simpa [Hps.meet_nil, Hps.seenL] using S⟩
  case round =>
    clear S
    obtain ⟨k, ov, vv, hk, rfl, S⟩ := hrel
    by_cases hlt : k < m
    · obtain ⟨g, o, t, rfl, hg, hx, d0⟩ := hs.at_ hlt
      have d1 := (S.low.cell (p := ⟨g, o + k, none⟩) hg).trans d0
      have hlt' : (k : Int) < m := by omega
      have HT := Lib.hid (take_snocI hx)
      have hok := Lib.hid (Hps.okRefs_at HO.out hx)
      have hin : Hid (Hps.InB cs (Hps.meet l (ts.take k))) := Lib.hid (HI.out.meet (Hps.okRefs_take HO.out k))
      have hnd : Hid ((Hps.meet l (ts.take k)).Nodup) := Lib.hid (Hps.meet_nodup _ HD.out)
      have hvl : (vs ++ Hps.seenL l (ts.take k)).length ≤ 2000000 := by
        rw [List.length_append, Hps.seenL_len, List.length_take]
        omega
      have HM := Lib.hid (show Hps.meet l (ts.take (k + 1)) = Hps.meet1 (Hps.meet l (ts.take k)) t by rw [HT.out, Hps.meet_snoc])
      have HV := Lib.hid (show vs ++ Hps.seenL l (ts.take (k + 1)) = (vs ++ Hps.seenL l (ts.take k)) ++ [Hps.nameL (Hps.meet1 (Hps.meet l (ts.take k)) t) t] by rw [HT.out, Hps.seenL_snoc, Hps.meet_snoc, List.append_assoc])
      obtain ⟨lk, hlk⟩ : ∃ lk, Hps.meet l (ts.take k) = lk := ⟨_, rfl⟩
      obtain ⟨vk, hvk⟩ : ∃ vk, vs ++ Hps.seenL l (ts.take k) = vk := ⟨_, rfl⟩
      obtain ⟨nm, hnm⟩ : ∃ nm, Hps.nameL (Hps.meet1 lk t) t = nm := ⟨_, rfl⟩
      rw [hlk, hvk] at S
      rw [hlk] at hin hnd HM HV
      rw [hvk] at hvl HV
      rw [hnm] at HV
      have HNM := Lib.hid hnm
      clear hlk hvk hnm hx d0
      obtain ⟨A2, c2, rfl, -⟩ := S.view.form
      obtain ⟨p, hp⟩ : ∃ p, vk.length = p := ⟨_, rfl⟩
      have HP := Lib.hid hp
      rw [hp] at S hvl
      clear hp
      go_upto_region 3 with fail
      have SS := Lib.hid S.drew
      clear S
      refine wp_region_inv (by kernel_rfl) (by kernel_rfl) (fun L ac ww => ∃ t12 t13 t14 t15 t16 t17 t18 t19 t20 t21 t22 t23 t24 t25 : Value, ac = { tmps := #[Value.pointer (some { block := b, off := 0 }), Value.slice (some { block := g, off := o }) m c, undef, undef, undef, Value.int IntKind.i64 t, Value.slice (some { block := g, off := o }) m c, Value.int IntKind.i64 ↑m, Value.int IntKind.i64 ↑k, Value.bool true, Value.pointer (some { block := g, off := o + k }), Value.int IntKind.i64 t, t12, t13, t14, t15, t16, t17, t18, t19, t20, t21, t22, t23, t24, t25, u26], defers := [] } ∧ (L 9 = false → EncX w0 ww b ov nv (.slice A2 p c2) lk (Hps.numsL lk n) vk) ∧ (L 9 = true → L 11 = false → ∃ ov', EncX w0 ww b ov' nv (.slice A2 p c2) (Hps.meet1 lk t) (Hps.numsL (Hps.meet1 lk t) n) vk) ∧ (Shut [(2, 1), (3, 2), (4, 3), (6, 5), (7, 6), (9, 7), (9, 8), (10, 9), (11, 4), (11, 9), (11, 10), (12, 0), (13, 12)] L) ∧ (L 0 = true → t12 = .pointer (some ⟨b, 0, none⟩)) ∧ (L 1 = true → t13 = .pointer (some ⟨b, 0, none⟩)) ∧ (L 2 = true → t14 = .pointer (some ⟨b, 0, none⟩)) ∧ (L 3 = true → t15 = .pointer (some ⟨b, 2, none⟩)) ∧ (L 4 = true → t16 = .slice A2 p c2) ∧ (L 5 = true → t17 = .pointer (some ⟨b, 0, none⟩)) ∧ (L 6 = true → t18 = .pointer (some ⟨b, 0, none⟩)) ∧ (L 7 = true → t19 = .pointer (some ⟨b, 0, none⟩)) ∧ (L 8 = true → t20 = .int .i64 t) ∧ (L 9 = true → t21 = .int .i64 nm) ∧ (L 10 = true → ∃ g10, t22 = .slice (some ⟨g10, 0, none⟩) 1 1 ∧ (L 11 = false → IS ww ww.heap.size (some ⟨g10, 0, none⟩) 1 [nm])) ∧ (L 11 = true → ∃ A9 c9, t23 = .slice A9 (p + 1) c9 ∧ ∃ ov' wp w9, ww = (if L 14 = true then w9.setCell ⟨b, 2, none⟩ t23 else w9) ∧ EncX w0 wp b ov' nv (.slice A2 p c2) (Hps.meet1 lk t) (Hps.numsL (Hps.meet1 lk t) n) vk ∧ wp.grownBy w9 (Value.slice A2 p c2).ownBlock ∧ OwnI w9 w0.heap.size t23 (vk ++ [nm]) ∧ (t23.ownBlock = (Value.slice A2 p c2).ownBlock ∨ t23.ownBlock = some wp.heap.size)) ∧ (L 12 = true → t24 = .pointer (some ⟨b, 0, none⟩)) ∧ (L 13 = true → t25 = .pointer (some ⟨b, 2, none⟩)) ∧ (L 14 = true → ∀ q, q < 14 → L q = true)) ?h0 ?hstep ?hdone
      case h0 => exact ⟨_, _, _, _, _, _, _, _, _, _, _, _, _, _, rfl, fun _ => SS.out, fun h => absurd h Bool.false_ne_true, fun _ _ h => absurd h Bool.false_ne_true, (fun h => absurd h Bool.false_ne_true), (fun h => absurd h Bool.false_ne_true), (fun h => absurd h Bool.false_ne_true), (fun h => absurd h Bool.false_ne_true), (fun h => absurd h Bool.false_ne_true), (fun h => absurd h Bool.false_ne_true), (fun h => absurd h Bool.false_ne_true), (fun h => absurd h Bool.false_ne_true), (fun h => absurd h Bool.false_ne_true), (fun h => absurd h Bool.false_ne_true), (fun h => absurd h Bool.false_ne_true), (fun h => absurd h Bool.false_ne_true), (fun h => absurd h Bool.false_ne_true), (fun h => absurd h Bool.false_ne_true), (fun h => absurd h Bool.false_ne_true)⟩
      case hstep =>
        rintro L ac ww i o ho hL hd ⟨t12, t13, t14, t15, t16, t17, t18, t19, t20, t21, t22, t23, t24, t25, rfl, I0, I1, I2, f0, f1, f2, f3, f4, f5, f6, f7, f8, f9, f10, f11, f12, f13, f14⟩
        have hi : i < 15 := (Array.getElem?_eq_some_iff.1 ho).1
        obtain rfl | rfl | rfl | rfl | rfl | rfl | rfl | rfl | rfl | rfl | rfl | rfl | rfl | rfl | rfl : i = 0 ∨ i = 1 ∨ i = 2 ∨ i = 3 ∨ i = 4 ∨ i = 5 ∨ i = 6 ∨ i = 7 ∨ i = 8 ∨ i = 9 ∨ i = 10 ∨ i = 11 ∨ i = 12 ∨ i = 13 ∨ i = 14 := by omega
        · obtain rfl := Option.some.inj ho
          refine wpOp_step rfl (fun K' hK => ?_)
          go_simp
          refine hK _ _ ?_
          exact ⟨_, _, _, _, _, _, _, _, _, _, _, _, _, _, rfl, (fun h => I0 (by rw [upd_other (by decide)] at h; exact h)), (fun h9 h11 => I1 (upd_ne h9 (by decide)) (by rw [upd_other (by decide)] at h11; exact h11)), (Shut.step I2 (by
            intro p hp e
            simp only [List.mem_cons, List.not_mem_nil, or_false] at hp
            rcases hp with rfl | rfl | rfl | rfl | rfl | rfl | rfl | rfl | rfl | rfl | rfl | rfl | rfl
            · exact absurd e (by decide)
            · exact absurd e (by decide)
            · exact absurd e (by decide)
            · exact absurd e (by decide)
            · exact absurd e (by decide)
            · exact absurd e (by decide)
            · exact absurd e (by decide)
            · exact absurd e (by decide)
            · exact absurd e (by decide)
            · exact absurd e (by decide)
            · exact absurd e (by decide)
            · exact absurd e (by decide)
            · exact absurd e (by decide))), (fun _ => rfl), (fun h => f1 (upd_ne h (by decide))), (fun h => f2 (upd_ne h (by decide))), (fun h => f3 (upd_ne h (by decide))), (fun h => f4 (upd_ne h (by decide))), (fun h => f5 (upd_ne h (by decide))), (fun h => f6 (upd_ne h (by decide))), (fun h => f7 (upd_ne h (by decide))), (fun h => f8 (upd_ne h (by decide))), (fun h => f9 (upd_ne h (by decide))), (fun h => by
            obtain ⟨g10, e10, r10⟩ := f10 (upd_ne h (by decide))
            exact ⟨g10, e10, fun h11 => r10 (by rw [upd_other (by decide)] at h11; exact h11)⟩), (fun h => by
            obtain ⟨A9, c9, e9, ov', wp, w9, e10, r⟩ := f11 (upd_ne h (by decide))
            exact ⟨A9, c9, e9, ov', wp, w9, by rw [upd_other (by decide)]; exact e10, r⟩), (fun h => f12 (upd_ne h (by decide))), (fun h => f13 (upd_ne h (by decide))), (fun h => absurd (f14 (upd_ne h (by decide)) 0 (by decide)) (by rw [hL]; decide))⟩
        · obtain rfl := Option.some.inj ho
          refine wpOp_step rfl (fun K' hK => ?_)
          go_simp
          refine hK _ _ ?_
          exact ⟨_, _, _, _, _, _, _, _, _, _, _, _, _, _, rfl, (fun h => I0 (by rw [upd_other (by decide)] at h; exact h)), (fun h9 h11 => I1 (upd_ne h9 (by decide)) (by rw [upd_other (by decide)] at h11; exact h11)), (Shut.step I2 (by
            intro p hp e
            simp only [List.mem_cons, List.not_mem_nil, or_false] at hp
            rcases hp with rfl | rfl | rfl | rfl | rfl | rfl | rfl | rfl | rfl | rfl | rfl | rfl | rfl
            · exact absurd e (by decide)
            · exact absurd e (by decide)
            · exact absurd e (by decide)
            · exact absurd e (by decide)
            · exact absurd e (by decide)
            · exact absurd e (by decide)
            · exact absurd e (by decide)
            · exact absurd e (by decide)
            · exact absurd e (by decide)
            · exact absurd e (by decide)
            · exact absurd e (by decide)
            · exact absurd e (by decide)
            · exact absurd e (by decide))), (fun h => f0 (upd_ne h (by decide))), (fun _ => rfl), (fun h => f2 (upd_ne h (by decide))), (fun h => f3 (upd_ne h (by decide))), (fun h => f4 (upd_ne h (by decide))), (fun h => f5 (upd_ne h (by decide))), (fun h => f6 (upd_ne h (by decide))), (fun h => f7 (upd_ne h (by decide))), (fun h => f8 (upd_ne h (by decide))), (fun h => f9 (upd_ne h (by decide))), (fun h => by
            obtain ⟨g10, e10, r10⟩ := f10 (upd_ne h (by decide))
            exact ⟨g10, e10, fun h11 => r10 (by rw [upd_other (by decide)] at h11; exact h11)⟩), (fun h => by
            obtain ⟨A9, c9, e9, ov', wp, w9, e10, r⟩ := f11 (upd_ne h (by decide))
            exact ⟨A9, c9, e9, ov', wp, w9, by rw [upd_other (by decide)]; exact e10, r⟩), (fun h => f12 (upd_ne h (by decide))), (fun h => f13 (upd_ne h (by decide))), (fun h => absurd (f14 (upd_ne h (by decide)) 1 (by decide)) (by rw [hL]; decide))⟩
        · obtain rfl := Option.some.inj ho
          have g1 := f1 (hd ⟨1, .data⟩ (by simp) rfl)
          subst g1
          refine wpOp_step rfl (fun K' hK => ?_)
          go_simp
          refine hK _ _ ?_
          exact ⟨_, _, _, _, _, _, _, _, _, _, _, _, _, _, rfl, (fun h => I0 (by rw [upd_other (by decide)] at h; exact h)), (fun h9 h11 => I1 (upd_ne h9 (by decide)) (by rw [upd_other (by decide)] at h11; exact h11)), (Shut.step I2 (by
            intro p hp e
            simp only [List.mem_cons, List.not_mem_nil, or_false] at hp
            rcases hp with rfl | rfl | rfl | rfl | rfl | rfl | rfl | rfl | rfl | rfl | rfl | rfl | rfl
            · exact hd ⟨1, .data⟩ (by simp) rfl
            · exact absurd e (by decide)
            · exact absurd e (by decide)
            · exact absurd e (by decide)
            · exact absurd e (by decide)
            · exact absurd e (by decide)
            · exact absurd e (by decide)
            · exact absurd e (by decide)
            · exact absurd e (by decide)
            · exact absurd e (by decide)
            · exact absurd e (by decide)
            · exact absurd e (by decide)
            · exact absurd e (by decide))), (fun h => f0 (upd_ne h (by decide))), (fun h => f1 (upd_ne h (by decide))), (fun _ => rfl), (fun h => f3 (upd_ne h (by decide))), (fun h => f4 (upd_ne h (by decide))), (fun h => f5 (upd_ne h (by decide))), (fun h => f6 (upd_ne h (by decide))), (fun h => f7 (upd_ne h (by decide))), (fun h => f8 (upd_ne h (by decide))), (fun h => f9 (upd_ne h (by decide))), (fun h => by
            obtain ⟨g10, e10, r10⟩ := f10 (upd_ne h (by decide))
            exact ⟨g10, e10, fun h11 => r10 (by rw [upd_other (by decide)] at h11; exact h11)⟩), (fun h => by
            obtain ⟨A9, c9, e9, ov', wp, w9, e10, r⟩ := f11 (upd_ne h (by decide))
            exact ⟨A9, c9, e9, ov', wp, w9, by rw [upd_other (by decide)]; exact e10, r⟩), (fun h => f12 (upd_ne h (by decide))), (fun h => f13 (upd_ne h (by decide))), (fun h => absurd (f14 (upd_ne h (by decide)) 2 (by decide)) (by rw [hL]; decide))⟩
        · obtain rfl := Option.some.inj ho
          have g2 := f2 (hd ⟨2, .data⟩ (by simp) rfl)
          subst g2
          refine wpOp_step rfl (fun K' hK => ?_)
          go_simp
          refine hK _ _ ?_
          exact ⟨_, _, _, _, _, _, _, _, _, _, _, _, _, _, rfl, (fun h => I0 (by rw [upd_other (by decide)] at h; exact h)), (fun h9 h11 => I1 (upd_ne h9 (by decide)) (by rw [upd_other (by decide)] at h11; exact h11)), (Shut.step I2 (by
            intro p hp e
            simp only [List.mem_cons, List.not_mem_nil, or_false] at hp
            rcases hp with rfl | rfl | rfl | rfl | rfl | rfl | rfl | rfl | rfl | rfl | rfl | rfl | rfl
            · exact absurd e (by decide)
            · exact hd ⟨2, .data⟩ (by simp) rfl
            · exact absurd e (by decide)
            · exact absurd e (by decide)
            · exact absurd e (by decide)
            · exact absurd e (by decide)
            · exact absurd e (by decide)
            · exact absurd e (by decide)
            · exact absurd e (by decide)
            · exact absurd e (by decide)
            · exact absurd e (by decide)
            · exact absurd e (by decide)
            · exact absurd e (by decide))), (fun h => f0 (upd_ne h (by decide))), (fun h => f1 (upd_ne h (by decide))), (fun h => f2 (upd_ne h (by decide))), (fun _ => rfl), (fun h => f4 (upd_ne h (by decide))), (fun h => f5 (upd_ne h (by decide))), (fun h => f6 (upd_ne h (by decide))), (fun h => f7 (upd_ne h (by decide))), (fun h => f8 (upd_ne h (by decide))), (fun h => f9 (upd_ne h (by decide))), (fun h => by
            obtain ⟨g10, e10, r10⟩ := f10 (upd_ne h (by decide))
            exact ⟨g10, e10, fun h11 => r10 (by rw [upd_other (by decide)] at h11; exact h11)⟩), (fun h => by
            obtain ⟨A9, c9, e9, ov', wp, w9, e10, r⟩ := f11 (upd_ne h (by decide))
            exact ⟨A9, c9, e9, ov', wp, w9, by rw [upd_other (by decide)]; exact e10, r⟩), (fun h => f12 (upd_ne h (by decide))), (fun h => f13 (upd_ne h (by decide))), (fun h => absurd (f14 (upd_ne h (by decide)) 3 (by decide)) (by rw [hL]; decide))⟩
        · obtain rfl := Option.some.inj ho
          have g3 := f3 (hd ⟨3, .data⟩ (by simp) rfl)
          subst g3
          have hL11 : L 11 = false := by
            cases e : L 11
            · rfl
            · exact absurd (I2.get (i := 11) (j := 4) (by decide) e) (by rw [hL]; decide)
          have z0 : ww.cell? ⟨b, 2, none⟩ = some (.slice A2 p c2) := by
            cases e : L 9
            · exact (I0 e).box.cell 2
            · obtain ⟨ov', S'⟩ := I1 e hL11
              exact S'.box.cell 2
          refine wpOp_step rfl (fun K' hK => ?_)
          go_simp
          refine hK _ _ ?_
          exact ⟨_, _, _, _, _, _, _, _, _, _, _, _, _, _, rfl, (fun h => I0 (by rw [upd_other (by decide)] at h; exact h)), (fun h9 h11 => I1 (upd_ne h9 (by decide)) (by rw [upd_other (by decide)] at h11; exact h11)), (Shut.step I2 (by
            intro p hp e
            simp only [List.mem_cons, List.not_mem_nil, or_false] at hp
            rcases hp with rfl | rfl | rfl | rfl | rfl | rfl | rfl | rfl | rfl | rfl | rfl | rfl | rfl
            · exact absurd e (by decide)
            · exact absurd e (by decide)
            · exact hd ⟨3, .data⟩ (by simp) rfl
            · exact absurd e (by decide)
            · exact absurd e (by decide)
            · exact absurd e (by decide)
            · exact absurd e (by decide)
            · exact absurd e (by decide)
            · exact absurd e (by decide)
            · exact absurd e (by decide)
            · exact absurd e (by decide)
            · exact absurd e (by decide)
            · exact absurd e (by decide))), (fun h => f0 (upd_ne h (by decide))), (fun h => f1 (upd_ne h (by decide))), (fun h => f2 (upd_ne h (by decide))), (fun h => f3 (upd_ne h (by decide))), (fun _ => rfl), (fun h => f5 (upd_ne h (by decide))), (fun h => f6 (upd_ne h (by decide))), (fun h => f7 (upd_ne h (by decide))), (fun h => f8 (upd_ne h (by decide))), (fun h => f9 (upd_ne h (by decide))), (fun h => by
            obtain ⟨g10, e10, r10⟩ := f10 (upd_ne h (by decide))
            exact ⟨g10, e10, fun h11 => r10 (by rw [upd_other (by decide)] at h11; exact h11)⟩), (fun h => by
            obtain ⟨A9, c9, e9, ov', wp, w9, e10, r⟩ := f11 (upd_ne h (by decide))
            exact ⟨A9, c9, e9, ov', wp, w9, by rw [upd_other (by decide)]; exact e10, r⟩), (fun h => f12 (upd_ne h (by decide))), (fun h => f13 (upd_ne h (by decide))), (fun h => absurd (f14 (upd_ne h (by decide)) 4 (by decide)) (by rw [hL]; decide))⟩
        · obtain rfl := Option.some.inj ho
          refine wpOp_step rfl (fun K' hK => ?_)
          go_simp
          refine hK _ _ ?_
          exact ⟨_, _, _, _, _, _, _, _, _, _, _, _, _, _, rfl, (fun h => I0 (by rw [upd_other (by decide)] at h; exact h)), (fun h9 h11 => I1 (upd_ne h9 (by decide)) (by rw [upd_other (by decide)] at h11; exact h11)), (Shut.step I2 (by
            intro p hp e
            simp only [List.mem_cons, List.not_mem_nil, or_false] at hp
            rcases hp with rfl | rfl | rfl | rfl | rfl | rfl | rfl | rfl | rfl | rfl | rfl | rfl | rfl
            · exact absurd e (by decide)
            · exact absurd e (by decide)
            · exact absurd e (by decide)
            · exact absurd e (by decide)
            · exact absurd e (by decide)
            · exact absurd e (by decide)
            · exact absurd e (by decide)
            · exact absurd e (by decide)
            · exact absurd e (by decide)
            · exact absurd e (by decide)
            · exact absurd e (by decide)
            · exact absurd e (by decide)
            · exact absurd e (by decide))), (fun h => f0 (upd_ne h (by decide))), (fun h => f1 (upd_ne h (by decide))), (fun h => f2 (upd_ne h (by decide))), (fun h => f3 (upd_ne h (by decide))), (fun h => f4 (upd_ne h (by decide))), (fun _ => rfl), (fun h => f6 (upd_ne h (by decide))), (fun h => f7 (upd_ne h (by decide))), (fun h => f8 (upd_ne h (by decide))), (fun h => f9 (upd_ne h (by decide))), (fun h => by
            obtain ⟨g10, e10, r10⟩ := f10 (upd_ne h (by decide))
            exact ⟨g10, e10, fun h11 => r10 (by rw [upd_other (by decide)] at h11; exact h11)⟩), (fun h => by
            obtain ⟨A9, c9, e9, ov', wp, w9, e10, r⟩ := f11 (upd_ne h (by decide))
            exact ⟨A9, c9, e9, ov', wp, w9, by rw [upd_other (by decide)]; exact e10, r⟩), (fun h => f12 (upd_ne h (by decide))), (fun h => f13 (upd_ne h (by decide))), (fun h => absurd (f14 (upd_ne h (by decide)) 5 (by decide)) (by rw [hL]; decide))⟩
        · obtain rfl := Option.some.inj ho
          have g5 := f5 (hd ⟨5, .data⟩ (by simp) rfl)
          subst g5
          refine wpOp_step rfl (fun K' hK => ?_)
          go_simp
          refine hK _ _ ?_
          exact ⟨_, _, _, _, _, _, _, _, _, _, _, _, _, _, rfl, (fun h => I0 (by rw [upd_other (by decide)] at h; exact h)), (fun h9 h11 => I1 (upd_ne h9 (by decide)) (by rw [upd_other (by decide)] at h11; exact h11)), (Shut.step I2 (by
            intro p hp e
            simp only [List.mem_cons, List.not_mem_nil, or_false] at hp
            rcases hp with rfl | rfl | rfl | rfl | rfl | rfl | rfl | rfl | rfl | rfl | rfl | rfl | rfl
            · exact absurd e (by decide)
            · exact absurd e (by decide)
            · exact absurd e (by decide)
            · exact hd ⟨5, .data⟩ (by simp) rfl
            · exact absurd e (by decide)
            · exact absurd e (by decide)
            · exact absurd e (by decide)
            · exact absurd e (by decide)
            · exact absurd e (by decide)
            · exact absurd e (by decide)
            · exact absurd e (by decide)
            · exact absurd e (by decide)
            · exact absurd e (by decide))), (fun h => f0 (upd_ne h (by decide))), (fun h => f1 (upd_ne h (by decide))), (fun h => f2 (upd_ne h (by decide))), (fun h => f3 (upd_ne h (by decide))), (fun h => f4 (upd_ne h (by decide))), (fun h => f5 (upd_ne h (by decide))), (fun _ => rfl), (fun h => f7 (upd_ne h (by decide))), (fun h => f8 (upd_ne h (by decide))), (fun h => f9 (upd_ne h (by decide))), (fun h => by
            obtain ⟨g10, e10, r10⟩ := f10 (upd_ne h (by decide))
            exact ⟨g10, e10, fun h11 => r10 (by rw [upd_other (by decide)] at h11; exact h11)⟩), (fun h => by
            obtain ⟨A9, c9, e9, ov', wp, w9, e10, r⟩ := f11 (upd_ne h (by decide))
            exact ⟨A9, c9, e9, ov', wp, w9, by rw [upd_other (by decide)]; exact e10, r⟩), (fun h => f12 (upd_ne h (by decide))), (fun h => f13 (upd_ne h (by decide))), (fun h => absurd (f14 (upd_ne h (by decide)) 6 (by decide)) (by rw [hL]; decide))⟩
        · obtain rfl := Option.some.inj ho
          have g6 := f6 (hd ⟨6, .data⟩ (by simp) rfl)
          subst g6
          refine wpOp_step rfl (fun K' hK => ?_)
          go_simp
          refine hK _ _ ?_
          exact ⟨_, _, _, _, _, _, _, _, _, _, _, _, _, _, rfl, (fun h => I0 (by rw [upd_other (by decide)] at h; exact h)), (fun h9 h11 => I1 (upd_ne h9 (by decide)) (by rw [upd_other (by decide)] at h11; exact h11)), (Shut.step I2 (by
            intro p hp e
            simp only [List.mem_cons, List.not_mem_nil, or_false] at hp
            rcases hp with rfl | rfl | rfl | rfl | rfl | rfl | rfl | rfl | rfl | rfl | rfl | rfl | rfl
            · exact absurd e (by decide)
            · exact absurd e (by decide)
            · exact absurd e (by decide)
            · exact absurd e (by decide)
            · exact hd ⟨6, .data⟩ (by simp) rfl
            · exact absurd e (by decide)
            · exact absurd e (by decide)
            · exact absurd e (by decide)
            · exact absurd e (by decide)
            · exact absurd e (by decide)
            · exact absurd e (by decide)
            · exact absurd e (by decide)
            · exact absurd e (by decide))), (fun h => f0 (upd_ne h (by decide))), (fun h => f1 (upd_ne h (by decide))), (fun h => f2 (upd_ne h (by decide))), (fun h => f3 (upd_ne h (by decide))), (fun h => f4 (upd_ne h (by decide))), (fun h => f5 (upd_ne h (by decide))), (fun h => f6 (upd_ne h (by decide))), (fun _ => rfl), (fun h => f8 (upd_ne h (by decide))), (fun h => f9 (upd_ne h (by decide))), (fun h => by
            obtain ⟨g10, e10, r10⟩ := f10 (upd_ne h (by decide))
            exact ⟨g10, e10, fun h11 => r10 (by rw [upd_other (by decide)] at h11; exact h11)⟩), (fun h => by
            obtain ⟨A9, c9, e9, ov', wp, w9, e10, r⟩ := f11 (upd_ne h (by decide))
            exact ⟨A9, c9, e9, ov', wp, w9, by rw [upd_other (by decide)]; exact e10, r⟩), (fun h => f12 (upd_ne h (by decide))), (fun h => f13 (upd_ne h (by decide))), (fun h => absurd (f14 (upd_ne h (by decide)) 7 (by decide)) (by rw [hL]; decide))⟩
        · obtain rfl := Option.some.inj ho
          refine wpOp_step rfl (fun K' hK => ?_)
          go_simp
          refine hK _ _ ?_
          exact ⟨_, _, _, _, _, _, _, _, _, _, _, _, _, _, rfl, (fun h => I0 (by rw [upd_other (by decide)] at h; exact h)), (fun h9 h11 => I1 (upd_ne h9 (by decide)) (by rw [upd_other (by decide)] at h11; exact h11)), (Shut.step I2 (by
            intro p hp e
            simp only [List.mem_cons, List.not_mem_nil, or_false] at hp
            rcases hp with rfl | rfl | rfl | rfl | rfl | rfl | rfl | rfl | rfl | rfl | rfl | rfl | rfl
            · exact absurd e (by decide)
            · exact absurd e (by decide)
            · exact absurd e (by decide)
            · exact absurd e (by decide)
            · exact absurd e (by decide)
            · exact absurd e (by decide)
            · exact absurd e (by decide)
            · exact absurd e (by decide)
            · exact absurd e (by decide)
            · exact absurd e (by decide)
            · exact absurd e (by decide)
            · exact absurd e (by decide)
            · exact absurd e (by decide))), (fun h => f0 (upd_ne h (by decide))), (fun h => f1 (upd_ne h (by decide))), (fun h => f2 (upd_ne h (by decide))), (fun h => f3 (upd_ne h (by decide))), (fun h => f4 (upd_ne h (by decide))), (fun h => f5 (upd_ne h (by decide))), (fun h => f6 (upd_ne h (by decide))), (fun h => f7 (upd_ne h (by decide))), (fun _ => rfl), (fun h => f9 (upd_ne h (by decide))), (fun h => by
            obtain ⟨g10, e10, r10⟩ := f10 (upd_ne h (by decide))
            exact ⟨g10, e10, fun h11 => r10 (by rw [upd_other (by decide)] at h11; exact h11)⟩), (fun h => by
            obtain ⟨A9, c9, e9, ov', wp, w9, e10, r⟩ := f11 (upd_ne h (by decide))
            exact ⟨A9, c9, e9, ov', wp, w9, by rw [upd_other (by decide)]; exact e10, r⟩), (fun h => f12 (upd_ne h (by decide))), (fun h => f13 (upd_ne h (by decide))), (fun h => absurd (f14 (upd_ne h (by decide)) 8 (by decide)) (by rw [hL]; decide))⟩
        · obtain rfl := Option.some.inj ho
          have g7 := f7 (hd ⟨7, .data⟩ (by simp) rfl)
          have g8 := f8 (hd ⟨8, .data⟩ (by simp) rfl)
          subst g7
          subst g8
          have S9 := I0 hL
          refine wpOp_step rfl (fun K' hK => ?_)
          go_simp
          refine (number_any S9 hn HC.out hin.out hnd.out t hok.out).mono ?_
          rintro e w' ⟨rfl, ov', S9'⟩
          rw [HNM.out]
          refine hK _ _ ?_
          exact ⟨_, _, _, _, _, _, _, _, _, _, _, _, _, _, rfl, (fun h => absurd h (by rw [upd_self]; decide)), (fun _ _ => ⟨ov', S9'⟩), (Shut.step I2 (by
            intro p hp e
            simp only [List.mem_cons, List.not_mem_nil, or_false] at hp
            rcases hp with rfl | rfl | rfl | rfl | rfl | rfl | rfl | rfl | rfl | rfl | rfl | rfl | rfl
            · exact absurd e (by decide)
            · exact absurd e (by decide)
            · exact absurd e (by decide)
            · exact absurd e (by decide)
            · exact absurd e (by decide)
            · exact hd ⟨7, .data⟩ (by simp) rfl
            · exact hd ⟨8, .data⟩ (by simp) rfl
            · exact absurd e (by decide)
            · exact absurd e (by decide)
            · exact absurd e (by decide)
            · exact absurd e (by decide)
            · exact absurd e (by decide)
            · exact absurd e (by decide))), (fun h => f0 (upd_ne h (by decide))), (fun h => f1 (upd_ne h (by decide))), (fun h => f2 (upd_ne h (by decide))), (fun h => f3 (upd_ne h (by decide))), (fun h => f4 (upd_ne h (by decide))), (fun h => f5 (upd_ne h (by decide))), (fun h => f6 (upd_ne h (by decide))), (fun h => f7 (upd_ne h (by decide))), (fun h => f8 (upd_ne h (by decide))), (fun _ => rfl), (fun h => absurd (I2.get (i := 10) (j := 9) (by decide) (upd_ne h (by decide))) (by rw [hL]; decide)), (fun h => absurd (I2.get (i := 11) (j := 9) (by decide) (upd_ne h (by decide))) (by rw [hL]; decide)), (fun h => f12 (upd_ne h (by decide))), (fun h => f13 (upd_ne h (by decide))), (fun h => absurd (f14 (upd_ne h (by decide)) 9 (by decide)) (by rw [hL]; decide))⟩
        · obtain rfl := Option.some.inj ho
          have g9 := f9 (hd ⟨9, .data⟩ (by simp) rfl)
          subst g9
          have l9 : Hid (L 9 = true) := Lib.hid (hd ⟨9, .data⟩ (by simp) rfl)
          have hL11 : L 11 = false := by
            cases e : L 11
            · rfl
            · exact absurd (I2.get (i := 11) (j := 10) (by decide) e) (by rw [hL]; decide)
          obtain ⟨ov', S'⟩ := I1 l9.out hL11
          have b5 : Below ww.heap.size ww (ww.alloc (.cells #[.int .i64 nm] 3)) := (Below.refl _ _).alloc (Nat.le_refl _) _
          have o1 := (own_oneI ww nm w0.heap.size S'.low.size).reads
          refine wpOp_step rfl (fun K' hK => ?_)
          go_simp
          refine hK _ _ ?_
          exact ⟨_, _, _, _, _, _, _, _, _, _, _, _, _, _, rfl, (fun h => absurd l9.out (by rw [upd_other (by decide)] at h; rw [h]; decide)), (fun _ _ => ⟨ov', S'.up b5⟩), (Shut.step I2 (by
            intro p hp e
            simp only [List.mem_cons, List.not_mem_nil, or_false] at hp
            rcases hp with rfl | rfl | rfl | rfl | rfl | rfl | rfl | rfl | rfl | rfl | rfl | rfl | rfl
            · exact absurd e (by decide)
            · exact absurd e (by decide)
            · exact absurd e (by decide)
            · exact absurd e (by decide)
            · exact absurd e (by decide)
            · exact absurd e (by decide)
            · exact absurd e (by decide)
            · exact hd ⟨9, .data⟩ (by simp) rfl
            · exact absurd e (by decide)
            · exact absurd e (by decide)
            · exact absurd e (by decide)
            · exact absurd e (by decide)
            · exact absurd e (by decide))), (fun h => f0 (upd_ne h (by decide))), (fun h => f1 (upd_ne h (by decide))), (fun h => f2 (upd_ne h (by decide))), (fun h => f3 (upd_ne h (by decide))), (fun h => f4 (upd_ne h (by decide))), (fun h => f5 (upd_ne h (by decide))), (fun h => f6 (upd_ne h (by decide))), (fun h => f7 (upd_ne h (by decide))), (fun h => f8 (upd_ne h (by decide))), (fun h => f9 (upd_ne h (by decide))), (fun _ => ⟨_, rfl, fun _ => o1⟩), (fun h => absurd (I2.get (i := 11) (j := 10) (by decide) (upd_ne h (by decide))) (by rw [hL]; decide)), (fun h => f12 (upd_ne h (by decide))), (fun h => f13 (upd_ne h (by decide))), (fun h => absurd (f14 (upd_ne h (by decide)) 10 (by decide)) (by rw [hL]; decide))⟩
        · obtain rfl := Option.some.inj ho
          have g4 := f4 (hd ⟨4, .data⟩ (by simp) rfl)
          have g10 := f10 (hd ⟨10, .data⟩ (by simp) rfl)
          subst g4
          have l9 : Hid (L 9 = true) := Lib.hid (I2.get (i := 10) (j := 9) (by decide) (hd ⟨10, .data⟩ (by simp) rfl))
          obtain ⟨ov', S'⟩ := I1 l9.out hL
          obtain ⟨g10, e10, r10⟩ := g10
          subst e10
          have o1 := r10 hL
          have hz := S'.low.size
          refine wpOp_step rfl (fun K' hK => ?_)
          refine app_stepI rfl (.tmp 16) (.tmp 22) rfl w0.heap.size _ vk rfl S'.view (some ⟨g10, 0, none⟩) 1 1 _ [nm] rfl o1 (by rw [HP.out]; omega) hz ?_
          intro v' w' o9 g9 s9
          obtain ⟨A9, c9, e9, -⟩ := o9.form
          rw [List.length_append, HP.out] at e9
          subst e9
          refine hK _ _ ?_
          exact ⟨_, _, _, _, _, _, _, _, _, _, _, _, _, _, rfl, (fun h => absurd l9.out (by rw [upd_other (by decide)] at h; rw [h]; decide)), (fun _ h => absurd h (by rw [upd_self]; decide)), (Shut.step I2 (by
            intro p hp e
            simp only [List.mem_cons, List.not_mem_nil, or_false] at hp
            rcases hp with rfl | rfl | rfl | rfl | rfl | rfl | rfl | rfl | rfl | rfl | rfl | rfl | rfl
            · exact absurd e (by decide)
            · exact absurd e (by decide)
            · exact absurd e (by decide)
            · exact absurd e (by decide)
            · exact absurd e (by decide)
            · exact absurd e (by decide)
            · exact absurd e (by decide)
            · exact absurd e (by decide)
            · exact hd ⟨4, .data⟩ (by simp) rfl
            · exact hd ⟨9, .chain⟩ (by simp) rfl
            · exact hd ⟨10, .data⟩ (by simp) rfl
            · exact absurd e (by decide)
            · exact absurd e (by decide))), (fun h => f0 (upd_ne h (by decide))), (fun h => f1 (upd_ne h (by decide))), (fun h => f2 (upd_ne h (by decide))), (fun h => f3 (upd_ne h (by decide))), (fun h => f4 (upd_ne h (by decide))), (fun h => f5 (upd_ne h (by decide))), (fun h => f6 (upd_ne h (by decide))), (fun h => f7 (upd_ne h (by decide))), (fun h => f8 (upd_ne h (by decide))), (fun h => f9 (upd_ne h (by decide))), (fun _ => ⟨g10, rfl, fun h => absurd h (by rw [upd_self]; decide)⟩), (fun _ => ⟨A9, c9, rfl, ov', ww, w', by
            rw [upd_other (by decide)]
            cases e : L 14
            · rw [if_neg (by decide)]
            · exact absurd (f14 e 11 (by decide)) (by rw [hL]; decide), S', g9, o9, s9⟩), (fun h => f12 (upd_ne h (by decide))), (fun h => f13 (upd_ne h (by decide))), (fun h => absurd (f14 (upd_ne h (by decide)) 11 (by decide)) (by rw [hL]; decide))⟩
        · obtain rfl := Option.some.inj ho
          have g0 := f0 (hd ⟨0, .data⟩ (by simp) rfl)
          subst g0
          refine wpOp_step rfl (fun K' hK => ?_)
          go_simp
          refine hK _ _ ?_
          exact ⟨_, _, _, _, _, _, _, _, _, _, _, _, _, _, rfl, (fun h => I0 (by rw [upd_other (by decide)] at h; exact h)), (fun h9 h11 => I1 (upd_ne h9 (by decide)) (by rw [upd_other (by decide)] at h11; exact h11)), (Shut.step I2 (by
            intro p hp e
            simp only [List.mem_cons, List.not_mem_nil, or_false] at hp
            rcases hp with rfl | rfl | rfl | rfl | rfl | rfl | rfl | rfl | rfl | rfl | rfl | rfl | rfl
            · exact absurd e (by decide)
            · exact absurd e (by decide)
            · exact absurd e (by decide)
            · exact absurd e (by decide)
            · exact absurd e (by decide)
            · exact absurd e (by decide)
            · exact absurd e (by decide)
            · exact absurd e (by decide)
            · exact absurd e (by decide)
            · exact absurd e (by decide)
            · exact absurd e (by decide)
            · exact hd ⟨0, .data⟩ (by simp) rfl
            · exact absurd e (by decide))), (fun h => f0 (upd_ne h (by decide))), (fun h => f1 (upd_ne h (by decide))), (fun h => f2 (upd_ne h (by decide))), (fun h => f3 (upd_ne h (by decide))), (fun h => f4 (upd_ne h (by decide))), (fun h => f5 (upd_ne h (by decide))), (fun h => f6 (upd_ne h (by decide))), (fun h => f7 (upd_ne h (by decide))), (fun h => f8 (upd_ne h (by decide))), (fun h => f9 (upd_ne h (by decide))), (fun h => by
            obtain ⟨g10, e10, r10⟩ := f10 (upd_ne h (by decide))
            exact ⟨g10, e10, fun h11 => r10 (by rw [upd_other (by decide)] at h11; exact h11)⟩), (fun h => by
            obtain ⟨A9, c9, e9, ov', wp, w9, e10, r⟩ := f11 (upd_ne h (by decide))
            exact ⟨A9, c9, e9, ov', wp, w9, by rw [upd_other (by decide)]; exact e10, r⟩), (fun _ => rfl), (fun h => f13 (upd_ne h (by decide))), (fun h => absurd (f14 (upd_ne h (by decide)) 12 (by decide)) (by rw [hL]; decide))⟩
        · obtain rfl := Option.some.inj ho
          have g12 := f12 (hd ⟨12, .data⟩ (by simp) rfl)
          subst g12
          refine wpOp_step rfl (fun K' hK => ?_)
          go_simp
          refine hK _ _ ?_
          exact ⟨_, _, _, _, _, _, _, _, _, _, _, _, _, _, rfl, (fun h => I0 (by rw [upd_other (by decide)] at h; exact h)), (fun h9 h11 => I1 (upd_ne h9 (by decide)) (by rw [upd_other (by decide)] at h11; exact h11)), (Shut.step I2 (by
            intro p hp e
            simp only [List.mem_cons, List.not_mem_nil, or_false] at hp
            rcases hp with rfl | rfl | rfl | rfl | rfl | rfl | rfl | rfl | rfl | rfl | rfl | rfl | rfl
            · exact absurd e (by decide)
            · exact absurd e (by decide)
            · exact absurd e (by decide)
            · exact absurd e (by decide)
            · exact absurd e (by decide)
            · exact absurd e (by decide)
            · exact absurd e (by decide)
            · exact absurd e (by decide)
            · exact absurd e (by decide)
            · exact absurd e (by decide)
            · exact absurd e (by decide)
            · exact absurd e (by decide)
            · exact hd ⟨12, .data⟩ (by simp) rfl)), (fun h => f0 (upd_ne h (by decide))), (fun h => f1 (upd_ne h (by decide))), (fun h => f2 (upd_ne h (by decide))), (fun h => f3 (upd_ne h (by decide))), (fun h => f4 (upd_ne h (by decide))), (fun h => f5 (upd_ne h (by decide))), (fun h => f6 (upd_ne h (by decide))), (fun h => f7 (upd_ne h (by decide))), (fun h => f8 (upd_ne h (by decide))), (fun h => f9 (upd_ne h (by decide))), (fun h => by
            obtain ⟨g10, e10, r10⟩ := f10 (upd_ne h (by decide))
            exact ⟨g10, e10, fun h11 => r10 (by rw [upd_other (by decide)] at h11; exact h11)⟩), (fun h => by
            obtain ⟨A9, c9, e9, ov', wp, w9, e10, r⟩ := f11 (upd_ne h (by decide))
            exact ⟨A9, c9, e9, ov', wp, w9, by rw [upd_other (by decide)]; exact e10, r⟩), (fun h => f12 (upd_ne h (by decide))), (fun _ => rfl), (fun h => absurd (f14 (upd_ne h (by decide)) 13 (by decide)) (by rw [hL]; decide))⟩
        · obtain rfl := Option.some.inj ho
          have g11 := f11 (hd ⟨11, .data⟩ (by simp) rfl)
          have g13 := f13 (hd ⟨13, .data⟩ (by simp) rfl)
          subst g13
          have lq : Hid (∀ q, q < 14 → L q = true) := Lib.hid (by
            intro q hq
            obtain rfl | rfl | rfl | rfl | rfl | rfl | rfl | rfl | rfl | rfl | rfl | rfl | rfl | rfl : q = 0 ∨ q = 1 ∨ q = 2 ∨ q = 3 ∨ q = 4 ∨ q = 5 ∨ q = 6 ∨ q = 7 ∨ q = 8 ∨ q = 9 ∨ q = 10 ∨ q = 11 ∨ q = 12 ∨ q = 13 := by omega
            · exact hd ⟨0, .phase⟩ (by simp) rfl
            · exact hd ⟨1, .phase⟩ (by simp) rfl
            · exact hd ⟨2, .phase⟩ (by simp) rfl
            · exact hd ⟨3, .phase⟩ (by simp) rfl
            · exact hd ⟨4, .phase⟩ (by simp) rfl
            · exact hd ⟨5, .phase⟩ (by simp) rfl
            · exact hd ⟨6, .phase⟩ (by simp) rfl
            · exact hd ⟨7, .phase⟩ (by simp) rfl
            · exact hd ⟨8, .phase⟩ (by simp) rfl
            · exact hd ⟨9, .phase⟩ (by simp) rfl
            · exact hd ⟨10, .phase⟩ (by simp) rfl
            · exact hd ⟨11, .phase⟩ (by simp) rfl
            · exact I2.get (i := 13) (j := 12) (by decide) (hd ⟨13, .data⟩ (by simp) rfl)
            · exact hd ⟨13, .data⟩ (by simp) rfl)
          obtain ⟨A9, c9, e9, ov', wp, w9, e10, r1, r2, r3, r4⟩ := g11
          rw [hL, if_neg (by decide)] at e10
          subst e10
          subst e9
          have hb9 := Rw.far r1.box r2 (own_box r1.view r1.box)
          have z0 : ww.cell? ⟨b, 2, none⟩ = some (.slice A2 p c2) := hb9.cell 2
          have zf : ww.frozen? ⟨b, 2, none⟩ = false := hb9.frozen 2
          refine wpOp_step rfl (fun K' hK => ?_)
          go_simp
          refine hK _ _ ?_
          exact ⟨_, _, _, _, _, _, _, _, _, _, _, _, _, _, rfl, (fun h => absurd (lq.out 9 (by decide)) (by rw [upd_other (by decide)] at h; rw [h]; decide)), (fun _ h => absurd (lq.out 11 (by decide)) (by rw [upd_other (by decide)] at h; rw [h]; decide)), (Shut.step I2 (by
            intro p hp e
            simp only [List.mem_cons, List.not_mem_nil, or_false] at hp
            rcases hp with rfl | rfl | rfl | rfl | rfl | rfl | rfl | rfl | rfl | rfl | rfl | rfl | rfl
            · exact absurd e (by decide)
            · exact absurd e (by decide)
            · exact absurd e (by decide)
            · exact absurd e (by decide)
            · exact absurd e (by decide)
            · exact absurd e (by decide)
            · exact absurd e (by decide)
            · exact absurd e (by decide)
            · exact absurd e (by decide)
            · exact absurd e (by decide)
            · exact absurd e (by decide)
            · exact absurd e (by decide)
            · exact absurd e (by decide))), (fun h => f0 (upd_ne h (by decide))), (fun h => f1 (upd_ne h (by decide))), (fun h => f2 (upd_ne h (by decide))), (fun h => f3 (upd_ne h (by decide))), (fun h => f4 (upd_ne h (by decide))), (fun h => f5 (upd_ne h (by decide))), (fun h => f6 (upd_ne h (by decide))), (fun h => f7 (upd_ne h (by decide))), (fun h => f8 (upd_ne h (by decide))), (fun h => f9 (upd_ne h (by decide))), (fun h => by
            obtain ⟨g10, e10, r10⟩ := f10 (upd_ne h (by decide))
            exact ⟨g10, e10, fun h11 => absurd (lq.out 11 (by decide)) (by rw [upd_other (by decide)] at h11; rw [h11]; decide)⟩), (fun _ => ⟨A9, c9, rfl, ov', wp, ww, by rw [upd_self, if_pos rfl], r1, r2, r3, r4⟩), (fun h => f12 (upd_ne h (by decide))), (fun h => f13 (upd_ne h (by decide))), (fun _ q hq => upd_mono (lq.out q hq))⟩
      case hdone =>
        rintro L ac ww hall ⟨t12, t13, t14, t15, t16, t17, t18, t19, t20, t21, t22, t23, t24, t25, rfl, I0, I1, I2, f0, f1, f2, f3, f4, f5, f6, f7, f8, f9, f10, f11, f12, f13, f14⟩
        have e0 := f0 (hall 0 (by decide))
        have e1 := f1 (hall 1 (by decide))
        have e2 := f2 (hall 2 (by decide))
        have e3 := f3 (hall 3 (by decide))
        have e4 := f4 (hall 4 (by decide))
        have e5 := f5 (hall 5 (by decide))
        have e6 := f6 (hall 6 (by decide))
        have e7 := f7 (hall 7 (by decide))
        have e8 := f8 (hall 8 (by decide))
        have e9 := f9 (hall 9 (by decide))
        have e10 := f10 (hall 10 (by decide))
        have e11 := f11 (hall 11 (by decide))
        have e12 := f12 (hall 12 (by decide))
        have e13 := f13 (hall 13 (by decide))
        have e14 := f14 (hall 14 (by decide))
        clear f0 f1 f2 f3 f4 f5 f6 f7 f8 f9 f10 f11 f12 f13 f14
        obtain ⟨A9, c9, rfl, ov', wp, w9, e17, r1, r2, r3, r4⟩ := e11
        rw [hall 14 (by decide), if_pos rfl] at e17
        subst e17
        have SF := r1.viewNew r2 r3 r4
        rw [← HM.out, ← HV.out] at SF
        clear I0 I1 I2 e0 e1 e2 e3 e4 e5 e6 e7 e8 e9 e10 e12 e13 e14 hall r1 r2 r3 r4
        go_wp2_with fail
        go_roundw
        case rel => exact ⟨k + 1, ov', _, by omega, by go_num, SF⟩
        case measure => simp [intOf]; omega
    · obtain rfl : k = m := by omega
      rw [← hlm, List.take_length] at S
      go_wp2_with fail
      go_end0
      exact ⟨⟨_, rfl⟩, _, _, S⟩

set_option maxHeartbeats 4000000 in
theorem putCell_any {w0 w1 : World} {b n : Nat} {ov nv vv : Value} {l vs ts : List Int} {cs : List Cl} (S : EncX w0 w1 b ov nv vv l (Hps.numsL l n) vs) (hn : n ≤ 1000) (hc : cs.length = n) (hi : Hps.InB cs l) (hd : l.Nodup) (u : Bool) (x : Int) (A : Option Addr) (m c : Nat) (hs : IS w0 w0.heap.size A m ts) (hm : m ≤ 1000000) (ho : Hps.okRefs cs ts = true) (hv : vs.length ≤ 900000) :
    Calls Try.prog 77 #[.pointer (some ⟨b, 0, none⟩), .agg #[.bool u, .int .i64 x, .slice A m c]] w1 fun e w' => (∃ v, e = .returned v) ∧ ∃ ov' vv', EncX w0 w' b ov' nv vv' (Hps.meet l ts) (Hps.numsL (Hps.meet l ts) n) (vs ++ (x :: (ts.length : Int) :: Hps.seenL l ts)) := by
  have HO := Lib.hid ho
  have HI := Lib.hid hi
  have HD := Lib.hid hd
  have HC := Lib.hid hc
  have HT := Lib.hid hs.1
  have HE := Lib.hid (show (vs ++ [x, (m : Int)]) ++ Hps.seenL l ts = vs ++ (x :: (ts.length : Int) :: Hps.seenL l ts) by rw [hs.1]; simp)
  have b1 := (Below.refl w1.heap.size w1).alloc (Nat.le_refl _) (.cells #[.bool u, .int .i64 x, .slice A m c] 70)
  have S1 := S.up b1
  have q1 := Rw.new w1 70 #[.bool u, .int .i64 x, .slice A m c]
  obtain ⟨A2, c2, rfl, -⟩ := S1.view.form
  obtain ⟨p, hp⟩ : ∃ p, vs.length = p := ⟨_, rfl⟩
  have HP := Lib.hid hp
  rw [hp] at S1 hv
  clear ho hi hd hc hp b1 S
  go_enter Try.func77, Try.ntmps77
  go_upto_region 1 with fail
  generalize w1.alloc (.cells #[.bool u, .int .i64 x, .slice A m c] 70) = w2 at S1 q1 ⊢
  generalize w1.heap.size = q at q1 ⊢
  have SS := Lib.hid S1.drew
  have QQ := Lib.hid (q1.keep (Below.refl _ w2).drew q1.lt)
  clear S1 q1
  refine wp_region_inv (by kernel_rfl) (by kernel_rfl) (fun L ac ww => ∃ t4 t5 t6 t7 t8 t9 t10 t11 t12 t13 t14 t15 t16 t17 : Value, ac = { tmps := #[Value.pointer (some { block := b, off := 0 }), Value.agg #[Value.bool u, Value.int IntKind.i64 x, Value.slice A m c], undef, Value.pointer (some { block := q, off := 0 }), t4, t5, t6, t7, t8, t9, t10, t11, t12, t13, t14, t15, t16, t17, undef, undef, undef, undef], defers := [] } ∧ (L 11 = false → EncX w0 ww b ov nv (.slice A2 p c2) l (Hps.numsL l n) vs ∧ Rw ww q 70 #[.bool u, .int .i64 x, .slice A m c]) ∧ (Shut [(2, 1), (3, 2), (4, 3), (6, 5), (8, 7), (9, 8), (10, 6), (10, 9), (11, 4), (11, 10), (12, 0), (13, 12)] L) ∧ (L 0 = true → t4 = .pointer (some ⟨b, 0, none⟩)) ∧ (L 1 = true → t5 = .pointer (some ⟨b, 0, none⟩)) ∧ (L 2 = true → t6 = .pointer (some ⟨b, 0, none⟩)) ∧ (L 3 = true → t7 = .pointer (some ⟨b, 2, none⟩)) ∧ (L 4 = true → t8 = .slice A2 p c2) ∧ (L 5 = true → t9 = .pointer (some ⟨q, 1, none⟩)) ∧ (L 6 = true → t10 = .int .i64 x) ∧ (L 7 = true → t11 = .pointer (some ⟨q, 2, none⟩)) ∧ (L 8 = true → t12 = .slice A m c) ∧ (L 9 = true → t13 = .int .i64 m) ∧ (L 10 = true → ∃ g10, t14 = .slice (some ⟨g10, 0, none⟩) 2 2 ∧ (L 11 = false → IS ww ww.heap.size (some ⟨g10, 0, none⟩) 2 [x, (m : Int)])) ∧ (L 11 = true → ∃ A9 c9, t15 = .slice A9 (p + 2) c9 ∧ ∃ wp w9, ww = (if L 14 = true then w9.setCell ⟨b, 2, none⟩ t15 else w9) ∧ EncX w0 wp b ov nv (.slice A2 p c2) l (Hps.numsL l n) vs ∧ Rw wp q 70 #[.bool u, .int .i64 x, .slice A m c] ∧ wp.grownBy w9 (Value.slice A2 p c2).ownBlock ∧ OwnI w9 w0.heap.size t15 (vs ++ [x, (m : Int)]) ∧ (t15.ownBlock = (Value.slice A2 p c2).ownBlock ∨ t15.ownBlock = some wp.heap.size)) ∧ (L 12 = true → t16 = .pointer (some ⟨b, 0, none⟩)) ∧ (L 13 = true → t17 = .pointer (some ⟨b, 2, none⟩)) ∧ (L 14 = true → ∀ q, q < 14 → L q = true)) ?h0 ?hstep ?hdone
  case h0 => exact ⟨_, _, _, _, _, _, _, _, _, _, _, _, _, _, rfl, fun _ => ⟨SS.out, QQ.out⟩, fun _ _ h => absurd h Bool.false_ne_true, (fun h => absurd h Bool.false_ne_true), (fun h => absurd h Bool.false_ne_true), (fun h => absurd h Bool.false_ne_true), (fun h => absurd h Bool.false_ne_true), (fun h => absurd h Bool.false_ne_true), (fun h => absurd h Bool.false_ne_true), (fun h => absurd h Bool.false_ne_true), (fun h => absurd h Bool.false_ne_true), (fun h => absurd h Bool.false_ne_true), (fun h => absurd h Bool.false_ne_true), (fun h => absurd h Bool.false_ne_true), (fun h => absurd h Bool.false_ne_true), (fun h => absurd h Bool.false_ne_true), (fun h => absurd h Bool.false_ne_true), (fun h => absurd h Bool.false_ne_true)⟩
  case hstep =>
    rintro L ac ww i o ho hL hd ⟨t4, t5, t6, t7, t8, t9, t10, t11, t12, t13, t14, t15, t16, t17, rfl, I0, I1, f0, f1, f2, f3, f4, f5, f6, f7, f8, f9, f10, f11, f12, f13, f14⟩
    have hi : i < 15 := (Array.getElem?_eq_some_iff.1 ho).1
    obtain rfl | rfl | rfl | rfl | rfl | rfl | rfl | rfl | rfl | rfl | rfl | rfl | rfl | rfl | rfl : i = 0 ∨ i = 1 ∨ i = 2 ∨ i = 3 ∨ i = 4 ∨ i = 5 ∨ i = 6 ∨ i = 7 ∨ i = 8 ∨ i = 9 ∨ i = 10 ∨ i = 11 ∨ i = 12 ∨ i = 13 ∨ i = 14 := by omega
    · obtain rfl := Option.some.inj ho
      refine wpOp_step rfl (fun K' hK => ?_)
      go_simp
      refine hK _ _ ?_
      exact ⟨_, _, _, _, _, _, _, _, _, _, _, _, _, _, rfl, (fun h => I0 (by rw [upd_other (by decide)] at h; exact h)), (Shut.step I1 (by
        intro p hp e
        simp only [List.mem_cons, List.not_mem_nil, or_false] at hp
        rcases hp with rfl | rfl | rfl | rfl | rfl | rfl | rfl | rfl | rfl | rfl | rfl | rfl
        · exact absurd e (by decide)
        · exact absurd e (by decide)
        · exact absurd e (by decide)
        · exact absurd e (by decide)
        · exact absurd e (by decide)
        · exact absurd e (by decide)
        · exact absurd e (by decide)
        · exact absurd e (by decide)
        · exact absurd e (by decide)
        · exact absurd e (by decide)
        · exact absurd e (by decide)
        · exact absurd e (by decide))), (fun _ => rfl), (fun h => f1 (upd_ne h (by decide))), (fun h => f2 (upd_ne h (by decide))), (fun h => f3 (upd_ne h (by decide))), (fun h => f4 (upd_ne h (by decide))), (fun h => f5 (upd_ne h (by decide))), (fun h => f6 (upd_ne h (by decide))), (fun h => f7 (upd_ne h (by decide))), (fun h => f8 (upd_ne h (by decide))), (fun h => f9 (upd_ne h (by decide))), (fun h => by
        obtain ⟨g10, e10, r10⟩ := f10 (upd_ne h (by decide))
        exact ⟨g10, e10, fun h11 => r10 (by rw [upd_other (by decide)] at h11; exact h11)⟩), (fun h => by
        obtain ⟨A9, c9, e9, wp, w9, e10, r⟩ := f11 (upd_ne h (by decide))
        exact ⟨A9, c9, e9, wp, w9, by rw [upd_other (by decide)]; exact e10, r⟩), (fun h => f12 (upd_ne h (by decide))), (fun h => f13 (upd_ne h (by decide))), (fun h => absurd (f14 (upd_ne h (by decide)) 0 (by decide)) (by rw [hL]; decide))⟩
    · obtain rfl := Option.some.inj ho
      refine wpOp_step rfl (fun K' hK => ?_)
      go_simp
      refine hK _ _ ?_
      exact ⟨_, _, _, _, _, _, _, _, _, _, _, _, _, _, rfl, (fun h => I0 (by rw [upd_other (by decide)] at h; exact h)), (Shut.step I1 (by
        intro p hp e
        simp only [List.mem_cons, List.not_mem_nil, or_false] at hp
        rcases hp with rfl | rfl | rfl | rfl | rfl | rfl | rfl | rfl | rfl | rfl | rfl | rfl
        · exact absurd e (by decide)
        · exact absurd e (by decide)
        · exact absurd e (by decide)
        · exact absurd e (by decide)
        · exact absurd e (by decide)
        · exact absurd e (by decide)
        · exact absurd e (by decide)
        · exact absurd e (by decide)
        · exact absurd e (by decide)
        · exact absurd e (by decide)
        · exact absurd e (by decide)
        · exact absurd e (by decide))), (fun h => f0 (upd_ne h (by decide))), (fun _ => rfl), (fun h => f2 (upd_ne h (by decide))), (fun h => f3 (upd_ne h (by decide))), (fun h => f4 (upd_ne h (by decide))), (fun h => f5 (upd_ne h (by decide))), (fun h => f6 (upd_ne h (by decide))), (fun h => f7 (upd_ne h (by decide))), (fun h => f8 (upd_ne h (by decide))), (fun h => f9 (upd_ne h (by decide))), (fun h => by
        obtain ⟨g10, e10, r10⟩ := f10 (upd_ne h (by decide))
        exact ⟨g10, e10, fun h11 => r10 (by rw [upd_other (by decide)] at h11; exact h11)⟩), (fun h => by
        obtain ⟨A9, c9, e9, wp, w9, e10, r⟩ := f11 (upd_ne h (by decide))
        exact ⟨A9, c9, e9, wp, w9, by rw [upd_other (by decide)]; exact e10, r⟩), (fun h => f12 (upd_ne h (by decide))), (fun h => f13 (upd_ne h (by decide))), (fun h => absurd (f14 (upd_ne h (by decide)) 1 (by decide)) (by rw [hL]; decide))⟩
    · obtain rfl := Option.some.inj ho
      have g1 := f1 (hd ⟨1, .data⟩ (by simp) rfl)
      subst g1
      refine wpOp_step rfl (fun K' hK => ?_)
      go_simp
      refine hK _ _ ?_
      exact ⟨_, _, _, _, _, _, _, _, _, _, _, _, _, _, rfl, (fun h => I0 (by rw [upd_other (by decide)] at h; exact h)), (Shut.step I1 (by
        intro p hp e
        simp only [List.mem_cons, List.not_mem_nil, or_false] at hp
        rcases hp with rfl | rfl | rfl | rfl | rfl | rfl | rfl | rfl | rfl | rfl | rfl | rfl
        · exact hd ⟨1, .data⟩ (by simp) rfl
        · exact absurd e (by decide)
        · exact absurd e (by decide)
        · exact absurd e (by decide)
        · exact absurd e (by decide)
        · exact absurd e (by decide)
        · exact absurd e (by decide)
        · exact absurd e (by decide)
        · exact absurd e (by decide)
        · exact absurd e (by decide)
        · exact absurd e (by decide)
        · exact absurd e (by decide))), (fun h => f0 (upd_ne h (by decide))), (fun h => f1 (upd_ne h (by decide))), (fun _ => rfl), (fun h => f3 (upd_ne h (by decide))), (fun h => f4 (upd_ne h (by decide))), (fun h => f5 (upd_ne h (by decide))), (fun h => f6 (upd_ne h (by decide))), (fun h => f7 (upd_ne h (by decide))), (fun h => f8 (upd_ne h (by decide))), (fun h => f9 (upd_ne h (by decide))), (fun h => by
        obtain ⟨g10, e10, r10⟩ := f10 (upd_ne h (by decide))
        exact ⟨g10, e10, fun h11 => r10 (by rw [upd_other (by decide)] at h11; exact h11)⟩), (fun h => by
        obtain ⟨A9, c9, e9, wp, w9, e10, r⟩ := f11 (upd_ne h (by decide))
        exact ⟨A9, c9, e9, wp, w9, by rw [upd_other (by decide)]; exact e10, r⟩), (fun h => f12 (upd_ne h (by decide))), (fun h => f13 (upd_ne h (by decide))), (fun h => absurd (f14 (upd_ne h (by decide)) 2 (by decide)) (by rw [hL]; decide))⟩
    · obtain rfl := Option.some.inj ho
      have g2 := f2 (hd ⟨2, .data⟩ (by simp) rfl)
      subst g2
      refine wpOp_step rfl (fun K' hK => ?_)
      go_simp
      refine hK _ _ ?_
      exact ⟨_, _, _, _, _, _, _, _, _, _, _, _, _, _, rfl, (fun h => I0 (by rw [upd_other (by decide)] at h; exact h)), (Shut.step I1 (by
        intro p hp e
        simp only [List.mem_cons, List.not_mem_nil, or_false] at hp
        rcases hp with rfl | rfl | rfl | rfl | rfl | rfl | rfl | rfl | rfl | rfl | rfl | rfl
        · exact absurd e (by decide)
        · exact hd ⟨2, .data⟩ (by simp) rfl
        · exact absurd e (by decide)
        · exact absurd e (by decide)
        · exact absurd e (by decide)
        · exact absurd e (by decide)
        · exact absurd e (by decide)
        · exact absurd e (by decide)
        · exact absurd e (by decide)
        · exact absurd e (by decide)
        · exact absurd e (by decide)
        · exact absurd e (by decide))), (fun h => f0 (upd_ne h (by decide))), (fun h => f1 (upd_ne h (by decide))), (fun h => f2 (upd_ne h (by decide))), (fun _ => rfl), (fun h => f4 (upd_ne h (by decide))), (fun h => f5 (upd_ne h (by decide))), (fun h => f6 (upd_ne h (by decide))), (fun h => f7 (upd_ne h (by decide))), (fun h => f8 (upd_ne h (by decide))), (fun h => f9 (upd_ne h (by decide))), (fun h => by
        obtain ⟨g10, e10, r10⟩ := f10 (upd_ne h (by decide))
        exact ⟨g10, e10, fun h11 => r10 (by rw [upd_other (by decide)] at h11; exact h11)⟩), (fun h => by
        obtain ⟨A9, c9, e9, wp, w9, e10, r⟩ := f11 (upd_ne h (by decide))
        exact ⟨A9, c9, e9, wp, w9, by rw [upd_other (by decide)]; exact e10, r⟩), (fun h => f12 (upd_ne h (by decide))), (fun h => f13 (upd_ne h (by decide))), (fun h => absurd (f14 (upd_ne h (by decide)) 3 (by decide)) (by rw [hL]; decide))⟩
    · obtain rfl := Option.some.inj ho
      have g3 := f3 (hd ⟨3, .data⟩ (by simp) rfl)
      subst g3
      have hL11 : L 11 = false := by
        cases e : L 11
        · rfl
        · exact absurd (I1.get (i := 11) (j := 4) (by decide) e) (by rw [hL]; decide)
      have z0 : ww.cell? ⟨b, 2, none⟩ = some (.slice A2 p c2) := (I0 hL11).1.box.cell 2
      refine wpOp_step rfl (fun K' hK => ?_)
      go_simp
      refine hK _ _ ?_
      exact ⟨_, _, _, _, _, _, _, _, _, _, _, _, _, _, rfl, (fun h => I0 (by rw [upd_other (by decide)] at h; exact h)), (Shut.step I1 (by
        intro p hp e
        simp only [List.mem_cons, List.not_mem_nil, or_false] at hp
        rcases hp with rfl | rfl | rfl | rfl | rfl | rfl | rfl | rfl | rfl | rfl | rfl | rfl
        · exact absurd e (by decide)
        · exact absurd e (by decide)
        · exact hd ⟨3, .data⟩ (by simp) rfl
        · exact absurd e (by decide)
        · exact absurd e (by decide)
        · exact absurd e (by decide)
        · exact absurd e (by decide)
        · exact absurd e (by decide)
        · exact absurd e (by decide)
        · exact absurd e (by decide)
        · exact absurd e (by decide)
        · exact absurd e (by decide))), (fun h => f0 (upd_ne h (by decide))), (fun h => f1 (upd_ne h (by decide))), (fun h => f2 (upd_ne h (by decide))), (fun h => f3 (upd_ne h (by decide))), (fun _ => rfl), (fun h => f5 (upd_ne h (by decide))), (fun h => f6 (upd_ne h (by decide))), (fun h => f7 (upd_ne h (by decide))), (fun h => f8 (upd_ne h (by decide))), (fun h => f9 (upd_ne h (by decide))), (fun h => by
        obtain ⟨g10, e10, r10⟩ := f10 (upd_ne h (by decide))
        exact ⟨g10, e10, fun h11 => r10 (by rw [upd_other (by decide)] at h11; exact h11)⟩), (fun h => by
        obtain ⟨A9, c9, e9, wp, w9, e10, r⟩ := f11 (upd_ne h (by decide))
        exact ⟨A9, c9, e9, wp, w9, by rw [upd_other (by decide)]; exact e10, r⟩), (fun h => f12 (upd_ne h (by decide))), (fun h => f13 (upd_ne h (by decide))), (fun h => absurd (f14 (upd_ne h (by decide)) 4 (by decide)) (by rw [hL]; decide))⟩
    · obtain rfl := Option.some.inj ho
      refine wpOp_step rfl (fun K' hK => ?_)
      go_simp
      refine hK _ _ ?_
      exact ⟨_, _, _, _, _, _, _, _, _, _, _, _, _, _, rfl, (fun h => I0 (by rw [upd_other (by decide)] at h; exact h)), (Shut.step I1 (by
        intro p hp e
        simp only [List.mem_cons, List.not_mem_nil, or_false] at hp
        rcases hp with rfl | rfl | rfl | rfl | rfl | rfl | rfl | rfl | rfl | rfl | rfl | rfl
        · exact absurd e (by decide)
        · exact absurd e (by decide)
        · exact absurd e (by decide)
        · exact absurd e (by decide)
        · exact absurd e (by decide)
        · exact absurd e (by decide)
        · exact absurd e (by decide)
        · exact absurd e (by decide)
        · exact absurd e (by decide)
        · exact absurd e (by decide)
        · exact absurd e (by decide)
        · exact absurd e (by decide))), (fun h => f0 (upd_ne h (by decide))), (fun h => f1 (upd_ne h (by decide))), (fun h => f2 (upd_ne h (by decide))), (fun h => f3 (upd_ne h (by decide))), (fun h => f4 (upd_ne h (by decide))), (fun _ => rfl), (fun h => f6 (upd_ne h (by decide))), (fun h => f7 (upd_ne h (by decide))), (fun h => f8 (upd_ne h (by decide))), (fun h => f9 (upd_ne h (by decide))), (fun h => by
        obtain ⟨g10, e10, r10⟩ := f10 (upd_ne h (by decide))
        exact ⟨g10, e10, fun h11 => r10 (by rw [upd_other (by decide)] at h11; exact h11)⟩), (fun h => by
        obtain ⟨A9, c9, e9, wp, w9, e10, r⟩ := f11 (upd_ne h (by decide))
        exact ⟨A9, c9, e9, wp, w9, by rw [upd_other (by decide)]; exact e10, r⟩), (fun h => f12 (upd_ne h (by decide))), (fun h => f13 (upd_ne h (by decide))), (fun h => absurd (f14 (upd_ne h (by decide)) 5 (by decide)) (by rw [hL]; decide))⟩
    · obtain rfl := Option.some.inj ho
      have g5 := f5 (hd ⟨5, .data⟩ (by simp) rfl)
      subst g5
      have hL11 : L 11 = false := by
        cases e : L 11
        · rfl
        · exact absurd (I1.get (i := 10) (j := 6) (by decide) (I1.get (i := 11) (j := 10) (by decide) e)) (by rw [hL]; decide)
      have z0 : ww.cell? ⟨q, 1, none⟩ = some (.int .i64 x) := (I0 hL11).2.cell 1
      refine wpOp_step rfl (fun K' hK => ?_)
      go_simp
      refine hK _ _ ?_
      exact ⟨_, _, _, _, _, _, _, _, _, _, _, _, _, _, rfl, (fun h => I0 (by rw [upd_other (by decide)] at h; exact h)), (Shut.step I1 (by
        intro p hp e
        simp only [List.mem_cons, List.not_mem_nil, or_false] at hp
        rcases hp with rfl | rfl | rfl | rfl | rfl | rfl | rfl | rfl | rfl | rfl | rfl | rfl
        · exact absurd e (by decide)
        · exact absurd e (by decide)
        · exact absurd e (by decide)
        · exact hd ⟨5, .data⟩ (by simp) rfl
        · exact absurd e (by decide)
        · exact absurd e (by decide)
        · exact absurd e (by decide)
        · exact absurd e (by decide)
        · exact absurd e (by decide)
        · exact absurd e (by decide)
        · exact absurd e (by decide)
        · exact absurd e (by decide))), (fun h => f0 (upd_ne h (by decide))), (fun h => f1 (upd_ne h (by decide))), (fun h => f2 (upd_ne h (by decide))), (fun h => f3 (upd_ne h (by decide))), (fun h => f4 (upd_ne h (by decide))), (fun h => f5 (upd_ne h (by decide))), (fun _ => rfl), (fun h => f7 (upd_ne h (by decide))), (fun h => f8 (upd_ne h (by decide))), (fun h => f9 (upd_ne h (by decide))), (fun h => by
        obtain ⟨g10, e10, r10⟩ := f10 (upd_ne h (by decide))
        exact ⟨g10, e10, fun h11 => r10 (by rw [upd_other (by decide)] at h11; exact h11)⟩), (fun h => by
        obtain ⟨A9, c9, e9, wp, w9, e10, r⟩ := f11 (upd_ne h (by decide))
        exact ⟨A9, c9, e9, wp, w9, by rw [upd_other (by decide)]; exact e10, r⟩), (fun h => f12 (upd_ne h (by decide))), (fun h => f13 (upd_ne h (by decide))), (fun h => absurd (f14 (upd_ne h (by decide)) 6 (by decide)) (by rw [hL]; decide))⟩
    · obtain rfl := Option.some.inj ho
      refine wpOp_step rfl (fun K' hK => ?_)
      go_simp
      refine hK _ _ ?_
      exact ⟨_, _, _, _, _, _, _, _, _, _, _, _, _, _, rfl, (fun h => I0 (by rw [upd_other (by decide)] at h; exact h)), (Shut.step I1 (by
        intro p hp e
        simp only [List.mem_cons, List.not_mem_nil, or_false] at hp
        rcases hp with rfl | rfl | rfl | rfl | rfl | rfl | rfl | rfl | rfl | rfl | rfl | rfl
        · exact absurd e (by decide)
        · exact absurd e (by decide)
        · exact absurd e (by decide)
        · exact absurd e (by decide)
        · exact absurd e (by decide)
        · exact absurd e (by decide)
        · exact absurd e (by decide)
        · exact absurd e (by decide)
        · exact absurd e (by decide)
        · exact absurd e (by decide)
        · exact absurd e (by decide)
        · exact absurd e (by decide))), (fun h => f0 (upd_ne h (by decide))), (fun h => f1 (upd_ne h (by decide))), (fun h => f2 (upd_ne h (by decide))), (fun h => f3 (upd_ne h (by decide))), (fun h => f4 (upd_ne h (by decide))), (fun h => f5 (upd_ne h (by decide))), (fun h => f6 (upd_ne h (by decide))), (fun _ => rfl), (fun h => f8 (upd_ne h (by decide))), (fun h => f9 (upd_ne h (by decide))), (fun h => by
        obtain ⟨g10, e10, r10⟩ := f10 (upd_ne h (by decide))
        exact ⟨g10, e10, fun h11 => r10 (by rw [upd_other (by decide)] at h11; exact h11)⟩), (fun h => by
        obtain ⟨A9, c9, e9, wp, w9, e10, r⟩ := f11 (upd_ne h (by decide))
        exact ⟨A9, c9, e9, wp, w9, by rw [upd_other (by decide)]; exact e10, r⟩), (fun h => f12 (upd_ne h (by decide))), (fun h => f13 (upd_ne h (by decide))), (fun h => absurd (f14 (upd_ne h (by decide)) 7 (by decide)) (by rw [hL]; decide))⟩
    · obtain rfl := Option.some.inj ho
      have g7 := f7 (hd ⟨7, .data⟩ (by simp) rfl)
      subst g7
      have hL11 : L 11 = false := by
        cases e : L 11
        · rfl
        · exact absurd (I1.get (i := 9) (j := 8) (by decide) (I1.get (i := 10) (j := 9) (by decide) (I1.get (i := 11) (j := 10) (by decide) e))) (by rw [hL]; decide)
      have z0 : ww.cell? ⟨q, 2, none⟩ = some (.slice A m c) := (I0 hL11).2.cell 2
      refine wpOp_step rfl (fun K' hK => ?_)
      go_simp
      refine hK _ _ ?_
      exact ⟨_, _, _, _, _, _, _, _, _, _, _, _, _, _, rfl, (fun h => I0 (by rw [upd_other (by decide)] at h; exact h)), (Shut.step I1 (by
        intro p hp e
        simp only [List.mem_cons, List.not_mem_nil, or_false] at hp
        rcases hp with rfl | rfl | rfl | rfl | rfl | rfl | rfl | rfl | rfl | rfl | rfl | rfl
        · exact absurd e (by decide)
        · exact absurd e (by decide)
        · exact absurd e (by decide)
        · exact absurd e (by decide)
        · exact hd ⟨7, .data⟩ (by simp) rfl
        · exact absurd e (by decide)
        · exact absurd e (by decide)
        · exact absurd e (by decide)
        · exact absurd e (by decide)
        · exact absurd e (by decide)
        · exact absurd e (by decide)
        · exact absurd e (by decide))), (fun h => f0 (upd_ne h (by decide))), (fun h => f1 (upd_ne h (by decide))), (fun h => f2 (upd_ne h (by decide))), (fun h => f3 (upd_ne h (by decide))), (fun h => f4 (upd_ne h (by decide))), (fun h => f5 (upd_ne h (by decide))), (fun h => f6 (upd_ne h (by decide))), (fun h => f7 (upd_ne h (by decide))), (fun _ => rfl), (fun h => f9 (upd_ne h (by decide))), (fun h => by
        obtain ⟨g10, e10, r10⟩ := f10 (upd_ne h (by decide))
        exact ⟨g10, e10, fun h11 => r10 (by rw [upd_other (by decide)] at h11; exact h11)⟩), (fun h => by
        obtain ⟨A9, c9, e9, wp, w9, e10, r⟩ := f11 (upd_ne h (by decide))
        exact ⟨A9, c9, e9, wp, w9, by rw [upd_other (by decide)]; exact e10, r⟩), (fun h => f12 (upd_ne h (by decide))), (fun h => f13 (upd_ne h (by decide))), (fun h => absurd (f14 (upd_ne h (by decide)) 8 (by decide)) (by rw [hL]; decide))⟩
    · obtain rfl := Option.some.inj ho
      have g8 := f8 (hd ⟨8, .data⟩ (by simp) rfl)
      subst g8
      refine wpOp_step rfl (fun K' hK => ?_)
      go_simp
      refine hK _ _ ?_
      exact ⟨_, _, _, _, _, _, _, _, _, _, _, _, _, _, rfl, (fun h => I0 (by rw [upd_other (by decide)] at h; exact h)), (Shut.step I1 (by
        intro p hp e
        simp only [List.mem_cons, List.not_mem_nil, or_false] at hp
        rcases hp with rfl | rfl | rfl | rfl | rfl | rfl | rfl | rfl | rfl | rfl | rfl | rfl
        · exact absurd e (by decide)
        · exact absurd e (by decide)
        · exact absurd e (by decide)
        · exact absurd e (by decide)
        · exact absurd e (by decide)
        · exact hd ⟨8, .data⟩ (by simp) rfl
        · exact absurd e (by decide)
        · exact absurd e (by decide)
        · exact absurd e (by decide)
        · exact absurd e (by decide)
        · exact absurd e (by decide)
        · exact absurd e (by decide))), (fun h => f0 (upd_ne h (by decide))), (fun h => f1 (upd_ne h (by decide))), (fun h => f2 (upd_ne h (by decide))), (fun h => f3 (upd_ne h (by decide))), (fun h => f4 (upd_ne h (by decide))), (fun h => f5 (upd_ne h (by decide))), (fun h => f6 (upd_ne h (by decide))), (fun h => f7 (upd_ne h (by decide))), (fun h => f8 (upd_ne h (by decide))), (fun _ => rfl), (fun h => by
        obtain ⟨g10, e10, r10⟩ := f10 (upd_ne h (by decide))
        exact ⟨g10, e10, fun h11 => r10 (by rw [upd_other (by decide)] at h11; exact h11)⟩), (fun h => by
        obtain ⟨A9, c9, e9, wp, w9, e10, r⟩ := f11 (upd_ne h (by decide))
        exact ⟨A9, c9, e9, wp, w9, by rw [upd_other (by decide)]; exact e10, r⟩), (fun h => f12 (upd_ne h (by decide))), (fun h => f13 (upd_ne h (by decide))), (fun h => absurd (f14 (upd_ne h (by decide)) 9 (by decide)) (by rw [hL]; decide))⟩
    · obtain rfl := Option.some.inj ho
      have g6 := f6 (hd ⟨6, .data⟩ (by simp) rfl)
      have g9 := f9 (hd ⟨9, .data⟩ (by simp) rfl)
      subst g6
      subst g9
      have hL11 : L 11 = false := by
        cases e : L 11
        · rfl
        · exact absurd (I1.get (i := 11) (j := 10) (by decide) e) (by rw [hL]; decide)
      obtain ⟨S', q'⟩ := I0 hL11
      have b5 : Below ww.heap.size ww (ww.alloc (.cells #[.int .i64 x, .int .i64 (m : Int)] 3)) := (Below.refl _ _).alloc (Nat.le_refl _) _
      have o1 := (own_twoI ww x (m : Int) w0.heap.size S'.low.size).reads
      refine wpOp_step rfl (fun K' hK => ?_)
      go_simp
      refine hK _ _ ?_
      exact ⟨_, _, _, _, _, _, _, _, _, _, _, _, _, _, rfl, (fun _ => ⟨S'.up b5, q'.keep b5 q'.lt⟩), (Shut.step I1 (by
        intro p hp e
        simp only [List.mem_cons, List.not_mem_nil, or_false] at hp
        rcases hp with rfl | rfl | rfl | rfl | rfl | rfl | rfl | rfl | rfl | rfl | rfl | rfl
        · exact absurd e (by decide)
        · exact absurd e (by decide)
        · exact absurd e (by decide)
        · exact absurd e (by decide)
        · exact absurd e (by decide)
        · exact absurd e (by decide)
        · exact hd ⟨6, .data⟩ (by simp) rfl
        · exact hd ⟨9, .data⟩ (by simp) rfl
        · exact absurd e (by decide)
        · exact absurd e (by decide)
        · exact absurd e (by decide)
        · exact absurd e (by decide))), (fun h => f0 (upd_ne h (by decide))), (fun h => f1 (upd_ne h (by decide))), (fun h => f2 (upd_ne h (by decide))), (fun h => f3 (upd_ne h (by decide))), (fun h => f4 (upd_ne h (by decide))), (fun h => f5 (upd_ne h (by decide))), (fun h => f6 (upd_ne h (by decide))), (fun h => f7 (upd_ne h (by decide))), (fun h => f8 (upd_ne h (by decide))), (fun h => f9 (upd_ne h (by decide))), (fun _ => ⟨_, rfl, fun _ => o1⟩), (fun h => absurd (I1.get (i := 11) (j := 10) (by decide) (upd_ne h (by decide))) (by rw [hL]; decide)), (fun h => f12 (upd_ne h (by decide))), (fun h => f13 (upd_ne h (by decide))), (fun h => absurd (f14 (upd_ne h (by decide)) 10 (by decide)) (by rw [hL]; decide))⟩
    · obtain rfl := Option.some.inj ho
      have g4 := f4 (hd ⟨4, .data⟩ (by simp) rfl)
      have g10 := f10 (hd ⟨10, .data⟩ (by simp) rfl)
      subst g4
      obtain ⟨S', q'⟩ := I0 hL
      obtain ⟨g10, e10, r10⟩ := g10
      subst e10
      have o1 := r10 hL
      have hz := S'.low.size
      refine wpOp_step rfl (fun K' hK => ?_)
      refine app_stepI rfl (.tmp 8) (.tmp 14) rfl w0.heap.size _ vs rfl S'.view (some ⟨g10, 0, none⟩) 2 2 _ [x, (m : Int)] rfl o1 (by rw [HP.out]; omega) hz ?_
      intro v' w' o9 g9 s9
      obtain ⟨A9, c9, e9, -⟩ := o9.form
      rw [List.length_append, HP.out] at e9
      subst e9
      refine hK _ _ ?_
      exact ⟨_, _, _, _, _, _, _, _, _, _, _, _, _, _, rfl, (fun h => absurd h (by rw [upd_self]; decide)), (Shut.step I1 (by
        intro p hp e
        simp only [List.mem_cons, List.not_mem_nil, or_false] at hp
        rcases hp with rfl | rfl | rfl | rfl | rfl | rfl | rfl | rfl | rfl | rfl | rfl | rfl
        · exact absurd e (by decide)
        · exact absurd e (by decide)
        · exact absurd e (by decide)
        · exact absurd e (by decide)
        · exact absurd e (by decide)
        · exact absurd e (by decide)
        · exact absurd e (by decide)
        · exact absurd e (by decide)
        · exact hd ⟨4, .data⟩ (by simp) rfl
        · exact hd ⟨10, .data⟩ (by simp) rfl
        · exact absurd e (by decide)
        · exact absurd e (by decide))), (fun h => f0 (upd_ne h (by decide))), (fun h => f1 (upd_ne h (by decide))), (fun h => f2 (upd_ne h (by decide))), (fun h => f3 (upd_ne h (by decide))), (fun h => f4 (upd_ne h (by decide))), (fun h => f5 (upd_ne h (by decide))), (fun h => f6 (upd_ne h (by decide))), (fun h => f7 (upd_ne h (by decide))), (fun h => f8 (upd_ne h (by decide))), (fun h => f9 (upd_ne h (by decide))), (fun _ => ⟨g10, rfl, fun h => absurd h (by rw [upd_self]; decide)⟩), (fun _ => ⟨A9, c9, rfl, ww, w', by
        rw [upd_other (by decide)]
        cases e : L 14
        · rw [if_neg (by decide)]
        · exact absurd (f14 e 11 (by decide)) (by rw [hL]; decide), S', q', g9, o9, s9⟩), (fun h => f12 (upd_ne h (by decide))), (fun h => f13 (upd_ne h (by decide))), (fun h => absurd (f14 (upd_ne h (by decide)) 11 (by decide)) (by rw [hL]; decide))⟩
    · obtain rfl := Option.some.inj ho
      have g0 := f0 (hd ⟨0, .data⟩ (by simp) rfl)
      subst g0
      refine wpOp_step rfl (fun K' hK => ?_)
      go_simp
      refine hK _ _ ?_
      exact ⟨_, _, _, _, _, _, _, _, _, _, _, _, _, _, rfl, (fun h => I0 (by rw [upd_other (by decide)] at h; exact h)), (Shut.step I1 (by
        intro p hp e
        simp only [List.mem_cons, List.not_mem_nil, or_false] at hp
        rcases hp with rfl | rfl | rfl | rfl | rfl | rfl | rfl | rfl | rfl | rfl | rfl | rfl
        · exact absurd e (by decide)
        · exact absurd e (by decide)
        · exact absurd e (by decide)
        · exact absurd e (by decide)
        · exact absurd e (by decide)
        · exact absurd e (by decide)
        · exact absurd e (by decide)
        · exact absurd e (by decide)
        · exact absurd e (by decide)
        · exact absurd e (by decide)
        · exact hd ⟨0, .data⟩ (by simp) rfl
        · exact absurd e (by decide))), (fun h => f0 (upd_ne h (by decide))), (fun h => f1 (upd_ne h (by decide))), (fun h => f2 (upd_ne h (by decide))), (fun h => f3 (upd_ne h (by decide))), (fun h => f4 (upd_ne h (by decide))), (fun h => f5 (upd_ne h (by decide))), (fun h => f6 (upd_ne h (by decide))), (fun h => f7 (upd_ne h (by decide))), (fun h => f8 (upd_ne h (by decide))), (fun h => f9 (upd_ne h (by decide))), (fun h => by
        obtain ⟨g10, e10, r10⟩ := f10 (upd_ne h (by decide))
        exact ⟨g10, e10, fun h11 => r10 (by rw [upd_other (by decide)] at h11; exact h11)⟩), (fun h => by
        obtain ⟨A9, c9, e9, wp, w9, e10, r⟩ := f11 (upd_ne h (by decide))
        exact ⟨A9, c9, e9, wp, w9, by rw [upd_other (by decide)]; exact e10, r⟩), (fun _ => rfl), (fun h => f13 (upd_ne h (by decide))), (fun h => absurd (f14 (upd_ne h (by decide)) 12 (by decide)) (by rw [hL]; decide))⟩
    · obtain rfl := Option.some.inj ho
      have g12 := f12 (hd ⟨12, .data⟩ (by simp) rfl)
      subst g12
      refine wpOp_step rfl (fun K' hK => ?_)
      go_simp
      refine hK _ _ ?_
      exact ⟨_, _, _, _, _, _, _, _, _, _, _, _, _, _, rfl, (fun h => I0 (by rw [upd_other (by decide)] at h; exact h)), (Shut.step I1 (by
        intro p hp e
        simp only [List.mem_cons, List.not_mem_nil, or_false] at hp
        rcases hp with rfl | rfl | rfl | rfl | rfl | rfl | rfl | rfl | rfl | rfl | rfl | rfl
        · exact absurd e (by decide)
        · exact absurd e (by decide)
        · exact absurd e (by decide)
        · exact absurd e (by decide)
        · exact absurd e (by decide)
        · exact absurd e (by decide)
        · exact absurd e (by decide)
        · exact absurd e (by decide)
        · exact absurd e (by decide)
        · exact absurd e (by decide)
        · exact absurd e (by decide)
        · exact hd ⟨12, .data⟩ (by simp) rfl)), (fun h => f0 (upd_ne h (by decide))), (fun h => f1 (upd_ne h (by decide))), (fun h => f2 (upd_ne h (by decide))), (fun h => f3 (upd_ne h (by decide))), (fun h => f4 (upd_ne h (by decide))), (fun h => f5 (upd_ne h (by decide))), (fun h => f6 (upd_ne h (by decide))), (fun h => f7 (upd_ne h (by decide))), (fun h => f8 (upd_ne h (by decide))), (fun h => f9 (upd_ne h (by decide))), (fun h => by
        obtain ⟨g10, e10, r10⟩ := f10 (upd_ne h (by decide))
        exact ⟨g10, e10, fun h11 => r10 (by rw [upd_other (by decide)] at h11; exact h11)⟩), (fun h => by
        obtain ⟨A9, c9, e9, wp, w9, e10, r⟩ := f11 (upd_ne h (by decide))
        exact ⟨A9, c9, e9, wp, w9, by rw [upd_other (by decide)]; exact e10, r⟩), (fun h => f12 (upd_ne h (by decide))), (fun _ => rfl), (fun h => absurd (f14 (upd_ne h (by decide)) 13 (by decide)) (by rw [hL]; decide))⟩
    · obtain rfl := Option.some.inj ho
      have g11 := f11 (hd ⟨11, .data⟩ (by simp) rfl)
      have g13 := f13 (hd ⟨13, .data⟩ (by simp) rfl)
      subst g13
      have lq : Hid (∀ q, q < 14 → L q = true) := Lib.hid (by
        intro q hq
        obtain rfl | rfl | rfl | rfl | rfl | rfl | rfl | rfl | rfl | rfl | rfl | rfl | rfl | rfl : q = 0 ∨ q = 1 ∨ q = 2 ∨ q = 3 ∨ q = 4 ∨ q = 5 ∨ q = 6 ∨ q = 7 ∨ q = 8 ∨ q = 9 ∨ q = 10 ∨ q = 11 ∨ q = 12 ∨ q = 13 := by omega
        · exact hd ⟨0, .phase⟩ (by simp) rfl
        · exact hd ⟨1, .phase⟩ (by simp) rfl
        · exact hd ⟨2, .phase⟩ (by simp) rfl
        · exact hd ⟨3, .phase⟩ (by simp) rfl
        · exact hd ⟨4, .phase⟩ (by simp) rfl
        · exact hd ⟨5, .phase⟩ (by simp) rfl
        · exact hd ⟨6, .phase⟩ (by simp) rfl
        · exact hd ⟨7, .phase⟩ (by simp) rfl
        · exact hd ⟨8, .phase⟩ (by simp) rfl
        · exact hd ⟨9, .phase⟩ (by simp) rfl
        · exact hd ⟨10, .phase⟩ (by simp) rfl
        · exact hd ⟨11, .phase⟩ (by simp) rfl
        · exact I1.get (i := 13) (j := 12) (by decide) (hd ⟨13, .data⟩ (by simp) rfl)
        · exact hd ⟨13, .data⟩ (by simp) rfl)
      obtain ⟨A9, c9, e9, wp, w9, e10, r1, rq, r2, r3, r4⟩ := g11
      rw [hL, if_neg (by decide)] at e10
      subst e10
      subst e9
      have hb9 := Rw.far r1.box r2 (own_box r1.view r1.box)
      have z0 : ww.cell? ⟨b, 2, none⟩ = some (.slice A2 p c2) := hb9.cell 2
      have zf : ww.frozen? ⟨b, 2, none⟩ = false := hb9.frozen 2
      refine wpOp_step rfl (fun K' hK => ?_)
      go_simp
      refine hK _ _ ?_
      exact ⟨_, _, _, _, _, _, _, _, _, _, _, _, _, _, rfl, (fun h => absurd (lq.out 11 (by decide)) (by rw [upd_other (by decide)] at h; rw [h]; decide)), (Shut.step I1 (by
        intro p hp e
        simp only [List.mem_cons, List.not_mem_nil, or_false] at hp
        rcases hp with rfl | rfl | rfl | rfl | rfl | rfl | rfl | rfl | rfl | rfl | rfl | rfl
        · exact absurd e (by decide)
        · exact absurd e (by decide)
        · exact absurd e (by decide)
        · exact absurd e (by decide)
        · exact absurd e (by decide)
        · exact absurd e (by decide)
        · exact absurd e (by decide)
        · exact absurd e (by decide)
        · exact absurd e (by decide)
        · exact absurd e (by decide)
        · exact absurd e (by decide)
        · exact absurd e (by decide))), (fun h => f0 (upd_ne h (by decide))), (fun h => f1 (upd_ne h (by decide))), (fun h => f2 (upd_ne h (by decide))), (fun h => f3 (upd_ne h (by decide))), (fun h => f4 (upd_ne h (by decide))), (fun h => f5 (upd_ne h (by decide))), (fun h => f6 (upd_ne h (by decide))), (fun h => f7 (upd_ne h (by decide))), (fun h => f8 (upd_ne h (by decide))), (fun h => f9 (upd_ne h (by decide))), (fun h => by
        obtain ⟨g10, e10, r10⟩ := f10 (upd_ne h (by decide))
        exact ⟨g10, e10, fun h11 => absurd (lq.out 11 (by decide)) (by rw [upd_other (by decide)] at h11; rw [h11]; decide)⟩), (fun _ => ⟨A9, c9, rfl, wp, ww, by rw [upd_self, if_pos rfl], r1, rq, r2, r3, r4⟩), (fun h => f12 (upd_ne h (by decide))), (fun h => f13 (upd_ne h (by decide))), (fun _ q hq => upd_mono (lq.out q hq))⟩
  case hdone =>
    rintro L ac ww hall ⟨t4, t5, t6, t7, t8, t9, t10, t11, t12, t13, t14, t15, t16, t17, rfl, I0, I1, f0, f1, f2, f3, f4, f5, f6, f7, f8, f9, f10, f11, f12, f13, f14⟩
    have e0 := f0 (hall 0 (by decide))
    have e1 := f1 (hall 1 (by decide))
    have e2 := f2 (hall 2 (by decide))
    have e3 := f3 (hall 3 (by decide))
    have e4 := f4 (hall 4 (by decide))
    have e5 := f5 (hall 5 (by decide))
    have e6 := f6 (hall 6 (by decide))
    have e7 := f7 (hall 7 (by decide))
    have e8 := f8 (hall 8 (by decide))
    have e9 := f9 (hall 9 (by decide))
    have e10 := f10 (hall 10 (by decide))
    have e11 := f11 (hall 11 (by decide))
    have e12 := f12 (hall 12 (by decide))
    have e13 := f13 (hall 13 (by decide))
    have e14 := f14 (hall 14 (by decide))
    clear f0 f1 f2 f3 f4 f5 f6 f7 f8 f9 f10 f11 f12 f13 f14
    obtain ⟨A9, c9, rfl, wp, w9, e17, r1, rq, r2, r3, r4⟩ := e11
    rw [hall 14 (by decide), if_pos rfl] at e17
    subst e17
    have SF := r1.viewNew r2 r3 r4
    have qF := (Rw.far rq r2 (row_type r1.view rq (by decide))).other (g' := b) (i := 2) (rw_type rq r1.box (by decide)) (.slice A9 (p + 2) c9)
    clear I0 I1 e0 e1 e2 e3 e4 e5 e6 e7 e8 e9 e10 e12 e13 e14 hall r1 rq r2 r3 r4
    go_upto_region 2 with fail
    generalize w9.setCell ⟨b, 2, none⟩ (.slice A9 (p + 2) c9) = w5 at SF qF ⊢
    have x2 : w5.cell? ⟨q, 2, none⟩ = some (.slice A m c) := qF.cell 2
    go_wp2_with fail
    with_reducible refine (putTargets_any SF hn HC.out HI.out HD.out A m c hs hm HO.out (by rw [List.length_append, HP.out]; simp; omega)).mono ?_
    rintro e w6 ⟨⟨v, rfl⟩, ov', vv', S6⟩
    rw [HE.out] at S6
    go_wp2_with fail
    go_end0
    exact ⟨⟨_, rfl⟩, _, _, S6⟩
end Go.Proofs.Ytbcefmkgifkjiaa
