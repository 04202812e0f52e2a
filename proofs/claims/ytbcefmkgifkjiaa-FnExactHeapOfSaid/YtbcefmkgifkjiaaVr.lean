/- What the program's encoded, MetOrder and ViewOf return: for every heap. No conditions. -/
import Derived.Test.YtbcefmkgifkjiaaVp
import Derived.Test.YtbcefmkgifkjiaaVg
import Derived.Test.YtbcefmkgifkjiaaGg
namespace Go.Proofs.Ytbcefmkgifkjiaa
open Go.RowKit
set_option maxRecDepth 100000

set_option maxHeartbeats 4000000 in
theorem encoded_any (A R : Option Addr) (n c m d : Nat) (h : Hp) (w : World) (hs : HS w w.heap.size A n R m h) (hv : Hps.validH h = true) :
    Calls Try.prog 43 #[heapV A n c R m d] w fun e w' => ∃ ov N n' c' vv, e = .returned (.agg #[ov, .slice N n' c', vv]) ∧ OwnI w' w.heap.size ov (Hps.orderH h) ∧ OwnI w' w.heap.size vv (Hps.viewH h) ∧ Below w.heap.size w w' := by
  have hlc := hs.cells.1
  have hlr := hs.roots.1
  obtain ⟨s1, s2, s3⟩ := Hps.valid_small hv
  rw [hlc] at s1
  have HV := Lib.hid hv
  have HC := Lib.hid hlc
  have HR := Lib.hid (Hps.valid_iff.1 hv).2.2.2
  have HS3 := Lib.hid s3
  obtain rfl : m = 4 := by omega
  have b1 := (Below.refl w.heap.size w).alloc (Nat.le_refl _) (.cells #[.slice A n c, .slice R 4 d] 26)
  have q1 := Rw.new w 26 #[.slice A n c, .slice R 4 d]
  have b2 := b1.alloc (by simp) (.cells #[.slice none 0 0, .slice none 0 0, .slice none 0 0] 67)
  have q2 := q1.alloc (.cells #[.slice none 0 0, .slice none 0 0, .slice none 0 0] 67)
  have r2 := Rw.new (w.alloc (.cells #[.slice A n c, .slice R 4 d] 26)) 67 #[.slice none 0 0, .slice none 0 0, .slice none 0 0]
  rw [World.size_alloc] at r2
  have hs2 := hs.up b2
  have hz2 : ((w.alloc (.cells #[.slice A n c, .slice R 4 d] 26)).alloc (.cells #[.slice none 0 0, .slice none 0 0, .slice none 0 0] 67)).heap.size = w.heap.size + 2 := by simp
  clear hv s3 q1 b1
  go_enter Try.func43, Try.ntmps43
  go_upto_region 1 with fail
  generalize (w.alloc (.cells #[.slice A n c, .slice R 4 d] 26)).alloc (.cells #[.slice none 0 0, .slice none 0 0, .slice none 0 0] 67) = w0 at b2 q2 r2 hs2 hz2 ⊢
  have HZ2 := Lib.hid hz2
  clear hz2
  have x0 : (w0.alloc (.cells #[.int .i64 (-1)] 3)).cell? ⟨w.heap.size, 0, none⟩ = some (.slice A n c) := (q2.alloc _).cell 0
  have b3 := (Below.refl w0.heap.size w0).alloc (Nat.le_refl _) (.cells #[.int .i64 (-1)] 3)
  have c3 : (w0.alloc (.cells #[.int .i64 (-1)] 3)).cell? ⟨w0.heap.size, 0, none⟩ = some (.int .i64 (-1)) := (Rw.new w0 3 #[.int .i64 (-1)]).cell 0
  go_wp2_with fail
  refine (repeatN_any n _ _ (by omega) (by simp) c3).mono ?_
  rintro e w1 ⟨v1, rfl, o1, b4⟩
  rw [World.size_alloc] at o1 b4
  have b5 := b3.trans (b4.mono (by simp))
  have z5 := b4.size
  have o5 := o1.base (base' := w0.heap.size) (by omega)
  obtain ⟨A1, c1, e1, -⟩ := o5.form
  rw [List.length_replicate] at e1
  subst e1
  clear b3 c3 b4 o1
  have S : EncX w0 (w1.alloc (.cells #[.slice none 0 0, .slice A1 n c1, .slice none 0 0] 67)) w1.heap.size (.slice none 0 0) (.slice A1 n c1) (.slice none 0 0) [] (Hps.numsL [] n) [] := by
    refine ⟨World.ownsRow_nil _ _ _ _, ?_, World.ownsRow_nil _ _ _ _, .inl rfl, .inl rfl, ?_, Rw.new _ _ _, b5.alloc (by simp at z5; omega) _, by simp at z5; omega⟩
    · rw [Hps.numsL_nil]
      exact World.ownsRow.alloc o5 _
    · cases e : (Value.slice A1 n c1).ownBlock with
      | none => exact .inl rfl
      | some k => exact .inr (by simp [Value.ownBlock])
  clear o5 b5 z5 x0
  go_upto_region 2 with fail
  generalize w1.alloc (.cells #[.slice none 0 0, .slice A1 n c1, .slice none 0 0] 67) = w2 at S ⊢
  generalize w1.heap.size = b at S ⊢
  have hib : Hps.InB h.cs [] := fun x hx => by simp at hx
  have hq0 : w.heap.size < w0.heap.size := by rw [HZ2.out]; omega
  have x1 : w2.cell? ⟨w.heap.size, 1, none⟩ = some (.slice R 4 d) := (q2.keep S.low hq0).cell 1
  go_wp2_with fail
  with_reducible refine (putTargets_any S (by omega) HC.out hib List.nodup_nil R 4 d hs2.roots (by omega) HR.out (by simp)).mono ?_
  rintro e w3 ⟨⟨v, rfl⟩, ov, vv, S3⟩
  rw [List.nil_append] at S3
  clear S x1
  go_wp2_with fail
  go_loopw [4] (fun i wr => ∃ (k : Nat) (l v : List Int) (ov vv : Value), i = .int .i64 k ∧ EncX w0 wr b ov (.slice A1 n c1) vv l (Hps.numsL l n) v ∧ Hid (Hps.Enc h k l v)) (fun i _ => n + 1 - (intOf i).toNat)
  case atStart => exact ⟨0, _, _, _, _, rfl, S3, Lib.hid (Hps.Enc.start HV.out)⟩
  case round =>
    clear S3
    obtain ⟨k, l, v, ov, vv, rfl, S, HE⟩ := hrel
    have hle := HE.out.le
    have hll := HE.out.len
    rw [HC.out] at hll
    obtain ⟨A2, c2, rfl, -⟩ := S.ord.form
    obtain ⟨q, hq⟩ : ∃ q, l.length = q := ⟨_, rfl⟩
    have HQ := Lib.hid hq
    rw [hq] at S hle hll
    have x0 : wr.cell? ⟨b, 0, none⟩ = some (.slice A2 q c2) := S.box.cell 0
    clear hq
    by_cases hlt : k < q
    · obtain ⟨x, hx, hxn⟩ := HE.out.at_ (i := k) (by rw [HQ.out]; exact hlt)
      rw [HC.out] at hxn
      obtain ⟨g2, o2, x', e1, _, hx', d2⟩ := S.ord.reads.at_ (k := k) hlt
      subst e1
      rw [hx] at hx'
      obtain rfl := Option.some.inj hx'
      obtain ⟨g, o, cl, A', m', cc, e1, hg, hcl, u1, u2, u3, hmc, hi⟩ := hs2.cells.at_ hxn
      subst e1
      have d3 := (S.low.cell (p := ⟨g, o + x * 3, none⟩) hg).trans u1
      have d4 := (S.low.cell (p := ⟨g, o + x * 3 + 1, none⟩) hg).trans u2
      have d5 := (S.low.cell (p := ⟨g, o + x * 3 + 2, none⟩) hg).trans u3
      have y0 : wr.cell? ⟨w.heap.size, 0, none⟩ = some (.slice (some ⟨g, o, none⟩) n c) := (q2.keep S.low hq0).cell 0
      have hkq : (k : Int) < q := by omega
      have hxnI : (x : Int) < n := by omega
      have SS := Lib.hid S
      have HN := Lib.hid (HE.out.next HV.out hx hcl)
      have hm3 := HS3.out cl (List.mem_of_getElem? hcl)
      have HOK := Lib.hid (Hps.valid_refs HV.out cl (List.mem_of_getElem? hcl))
      have HVL := Lib.hid (HE.out.small HV.out)
      have hml := hi.1
      clear S hx hcl u1 u2 u3 hx'
      go_upto_region 6 with fail
      go_still_tail 10, (by kernel_rfl)
      change wpList _ _ _ _ _ wr.drew
      have S4 := SS.out.drew
      generalize wr.drew = w4 at S4 ⊢
      clear SS d2 d3 d4 d5 y0 x0
      go_wp2_with fail
      with_reducible refine (putCell_any S4 (by omega) HC.out HE.out.bf.inb HE.out.bf.nodup cl.u cl.d A' m' cc hi (by omega) HOK.out (by have := HVL.out; omega)).mono ?_
      rintro e w5 ⟨⟨v5, rfl⟩, ov', vv', S5⟩
      clear S4
      go_wp2_with fail
      go_roundw
      case rel => exact ⟨k + 1, _, _, ov', vv', by go_num, S5, HN⟩
      case measure => simp [intOf]; omega
    · obtain rfl : k = q := by omega
      obtain ⟨F1, F2⟩ := HE.out.fin HV.out (by rw [HQ.out]; exact Nat.le_refl _)
      subst F1 F2
      obtain ⟨A3, c3, rfl, -⟩ := S.view.form
      obtain ⟨p, hp⟩ : ∃ p, (Hps.viewH h).length = p := ⟨_, rfl⟩
      rw [hp] at S
      have x2 : wr.cell? ⟨b, 1, none⟩ = some (.slice A1 n c1) := S.box.cell 1
      have x3 : wr.cell? ⟨b, 2, none⟩ = some (.slice A3 p c3) := S.box.cell 2
      have hq1 : w.heap.size + 1 < w0.heap.size := by rw [HZ2.out]; omega
      have r3 := r2.keep S.low hq1
      have y0 : wr.cell? ⟨w.heap.size + 1, 0, none⟩ = some (.slice none 0 0) := r3.cell 0
      have y1 : wr.cell? ⟨w.heap.size + 1, 1, none⟩ = some (.slice none 0 0) := r3.cell 1
      have y2 : wr.cell? ⟨w.heap.size + 1, 2, none⟩ = some (.slice none 0 0) := r3.cell 2
      have f0 : wr.frozen? ⟨w.heap.size + 1, 0, none⟩ = false := r3.frozen 0
      have f1 : wr.frozen? ⟨w.heap.size + 1, 1, none⟩ = false := r3.frozen 1
      have f2 : wr.frozen? ⟨w.heap.size + 1, 2, none⟩ = false := r3.frozen 2
      have keep : ∀ (W : World) (i : Nat) (u v : Value) (xs : List Int), OwnI W w0.heap.size v xs → OwnI (W.setCell ⟨w.heap.size + 1, i, none⟩ u) w0.heap.size v xs := fun W i u v xs ho => ho.far (put_any W (w.heap.size + 1) i u) (.inr fun e => by
        have := (World.ownsRow.lt ho _ e).1
        omega)
      have D := Lib.hid (And.intro (keep _ 2 (.slice A3 p c3) _ _ (keep _ 1 (.slice A1 n c1) _ _ (keep _ 0 (.slice A2 k c2) _ _ S.ord))) (And.intro (keep _ 2 (.slice A3 p c3) _ _ (keep _ 1 (.slice A1 n c1) _ _ (keep _ 0 (.slice A2 k c2) _ _ S.view)))
        ((((b2.trans (S.low.mono (by omega))).setCell (p := ⟨w.heap.size + 1, 0, none⟩) (by simp) (.slice A2 k c2)).setCell (p := ⟨w.heap.size + 1, 1, none⟩) (by simp) (.slice A1 n c1)).setCell (p := ⟨w.heap.size + 1, 2, none⟩) (by simp) (.slice A3 p c3))))
      have r4 := ((r3.put 0 (.slice A2 k c2)).put 1 (.slice A1 n c1)).put 2 (.slice A3 p c3)
      clear S r3 hp keep
      go_wp2_with fail
      have z0 := r4.cell 0
      have z1 := r4.cell 1
      have z2 := r4.cell 2
      simp only [List.setIfInBounds_toArray, List.set_cons_zero, List.set_cons_succ, List.getElem?_toArray, List.getElem?_cons_zero, List.getElem?_cons_succ] at z0 z1 z2
      exact bodyPost_ret (v := .agg #[.slice A2 k c2, .slice A1 n c1, .slice A3 p c3]) (by simp [results, Try.results43, go_sem, *]) rfl ⟨_, _, _, _, _, rfl, D.out.1.base (by omega), D.out.2.1.base (by omega), D.out.2.2⟩

theorem field_enc0 (A N V : Option Addr) (a c n d v e : Nat) (w : World) : (Instr.field 67 (.agg #[.slice A a c, .slice N n d, .slice V v e]) 0).run Try.prog w = .ok (.agg #[.slice A a c, .slice N n d]) w := by kernel_rfl
theorem field_enc1 (A N V : Option Addr) (a c n d v e : Nat) (w : World) : (Instr.field 67 (.agg #[.slice A a c, .slice N n d, .slice V v e]) 1).run Try.prog w = .ok (.slice V v e) w := by kernel_rfl
theorem field_num0 (A N : Option Addr) (a c n d : Nat) (w : World) : (Instr.field 65 (.agg #[.slice A a c, .slice N n d]) 0).run Try.prog w = .ok (.slice A a c) w := by kernel_rfl

theorem metOrder_any (A R : Option Addr) (n c m d : Nat) (h : Hp) (w : World) (hs : HS w w.heap.size A n R m h) (hn : n ≤ 1099511627776) (hm : m ≤ 1099511627776) (hc : n ≤ c) (hd : m ≤ d) :
    Calls Try.prog 11 #[heapV A n c R m d] w (GaveI w (Hps.orderH h)) := by
  have b0 : Below w.heap.size w (w.alloc (.cells #[.slice A n c, .slice R m d] 26)) := (Below.refl _ _).alloc (Nat.le_refl _) _
  have r0 := hs.up b0
  have hw0 := Rw.new w 26 #[.slice A n c, .slice R m d]
  cases hv : Hps.validH h
  · have HR := Lib.hid (show Hps.orderH h = [] from by rw [Hps.orderH, if_neg (by rw [hv]; decide)])
    have HV := Lib.hid hv
    clear hv
    go_enter Try.func11, Try.ntmps11
    go_wp2_with fail
    refine (heapValid_any _ _ _ _ _ _ h _ r0 hn hm hc hd).mono ?_
    rw [HV.out]
    rintro e w1 ⟨rfl, b1⟩
    have bb1 := b0.trans (b1.mono b0.size)
    go_wp2_with fail
    go_ret
    exact ⟨_, rfl, by rw [HR.out]; exact World.ownsRow_nil _ _ _ _, bb1⟩
  · have HV := Lib.hid hv
    clear hv
    go_enter Try.func11, Try.ntmps11
    go_wp2_with fail
    refine (heapValid_any _ _ _ _ _ _ h _ r0 hn hm hc hd).mono ?_
    rw [HV.out]
    rintro e w1 ⟨rfl, b1⟩
    have bb1 := b0.trans (b1.mono b0.size)
    have r1 := r0.up b1
    have hw1 := hw0.keep b1 (by simp)
    have x0 : w1.cell? ⟨w.heap.size, 0, none⟩ = some (.slice A n c) := hw1.cell 0
    have x1 : w1.cell? ⟨w.heap.size, 1, none⟩ = some (.slice R m d) := hw1.cell 1
    have hz1 := bb1.size
    go_wp2_with fail
    refine (encoded_any _ _ _ _ _ _ h _ r1 HV.out).mono ?_
    rintro e w2 ⟨ov, N, n', c', vv, rfl, o1, o2, b2⟩
    have bb2 := bb1.trans (b2.mono hz1)
    obtain ⟨A1, c1, rfl, -⟩ := o1.form
    obtain ⟨A2, c2, rfl, -⟩ := o2.form
    have F0 := field_enc0 A1 N A2 (Hps.orderH h).length c1 n' c' (Hps.viewH h).length c2
    have F1 := field_num0 A1 N (Hps.orderH h).length c1 n' c'
    go_wp2_with fail
    go_ret
    exact ⟨_, rfl, o1.base hz1, bb2⟩

theorem viewOf_any (A R : Option Addr) (n c m d : Nat) (h : Hp) (w : World) (hs : HS w w.heap.size A n R m h) (hn : n ≤ 1099511627776) (hm : m ≤ 1099511627776) (hc : n ≤ c) (hd : m ≤ d) :
    Calls Try.prog 29 #[heapV A n c R m d] w (GaveI w (Hps.viewH h)) := by
  have b0 : Below w.heap.size w (w.alloc (.cells #[.slice A n c, .slice R m d] 26)) := (Below.refl _ _).alloc (Nat.le_refl _) _
  have r0 := hs.up b0
  have hw0 := Rw.new w 26 #[.slice A n c, .slice R m d]
  cases hv : Hps.validH h
  · have HR := Lib.hid (show Hps.viewH h = [] from Hps.view_not hv)
    have HV := Lib.hid hv
    clear hv
    go_enter Try.func29, Try.ntmps29
    go_wp2_with fail
    refine (heapValid_any _ _ _ _ _ _ h _ r0 hn hm hc hd).mono ?_
    rw [HV.out]
    rintro e w1 ⟨rfl, b1⟩
    have bb1 := b0.trans (b1.mono b0.size)
    go_wp2_with fail
    go_ret
    exact ⟨_, rfl, by rw [HR.out]; exact World.ownsRow_nil _ _ _ _, bb1⟩
  · have HV := Lib.hid hv
    clear hv
    go_enter Try.func29, Try.ntmps29
    go_wp2_with fail
    refine (heapValid_any _ _ _ _ _ _ h _ r0 hn hm hc hd).mono ?_
    rw [HV.out]
    rintro e w1 ⟨rfl, b1⟩
    have bb1 := b0.trans (b1.mono b0.size)
    have r1 := r0.up b1
    have hw1 := hw0.keep b1 (by simp)
    have x0 : w1.cell? ⟨w.heap.size, 0, none⟩ = some (.slice A n c) := hw1.cell 0
    have x1 : w1.cell? ⟨w.heap.size, 1, none⟩ = some (.slice R m d) := hw1.cell 1
    have hz1 := bb1.size
    go_wp2_with fail
    refine (encoded_any _ _ _ _ _ _ h _ r1 HV.out).mono ?_
    rintro e w2 ⟨ov, N, n', c', vv, rfl, o1, o2, b2⟩
    have bb2 := bb1.trans (b2.mono hz1)
    obtain ⟨A1, c1, rfl, -⟩ := o1.form
    obtain ⟨A2, c2, rfl, -⟩ := o2.form
    have F0 := field_enc1 A1 N A2 (Hps.orderH h).length c1 n' c' (Hps.viewH h).length c2
    go_wp2_with fail
    go_ret
    exact ⟨_, rfl, o2.base hz1, bb2⟩
end Go.Proofs.Ytbcefmkgifkjiaa
