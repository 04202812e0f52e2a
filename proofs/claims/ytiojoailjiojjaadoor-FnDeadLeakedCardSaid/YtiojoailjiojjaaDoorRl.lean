/- What the program's visit of a cell does, in every memory in which its walk lies: the walk behind it is as the plain mathematics of components says. No conditions. -/
import Derived.Test.YtiojoailjiojjaaDoorRk
import Derived.BigRegion
namespace Go.Proofs.YtiojoailjiojjaaDoor
open Go.RowKit
set_option maxRecDepth 100000

/-- a visit returns a time and leaves a walk behind that is as it must be -/
def VisitGave (w0 : World) (B b g n c : Nat) (A : Option Addr) (cs : List Cl) (S : Hps.Tw) (v : Nat) (e : Ending) (w' : World) : Prop :=
  ∃ (m : Int) (ov' fv' : Value) (S' : Hps.Tw), e = .returned (.int .i64 m) ∧ Hps.TwPost cs S v m S' ∧ WkSt w' B b g (.slice A n c) n ov' fv' S' ∧ Below B w0 w'

/-- a cell that was met before -/
theorem visit_seen (w0 : World) (B b g n c : Nat) (A : Option Addr) (cs : List Cl) (v : Nat) (w : World) (ov fv : Value) (S : Hps.Tw) (y : Int) (hy : S.t[v]? = some y) (h0 : y ≠ 0) (ok : Hps.TwOk cs S) (W : WkSt w B b g (.slice A n c) n ov fv S) (bb : Below B w0 w) :
    Calls Tryd.prog 122 #[.pointer (some ⟨b, 0, none⟩), .int .i64 v] w (VisitGave w0 B b g n c A cs S v) := by
  have c1 := W.t_at hy
  have x2 : w.cell? ⟨b, 2, none⟩ = some (.slice (some ⟨g, 0, none⟩) n n) := W.box.cell 2
  have hv' : (v : Int) < n := by have := (List.getElem?_eq_some_iff.1 hy).1; have := W.len; omega
  have P := Lib.hid (Hps.TwPost.seen ok hy h0)
  have hy0 : y > 0 := by have := (ok.rng v y hy).1; omega
  clear hy ok
  go_enter Tryd.func122, Tryd.ntmps122
  go_wp2_with fail
  go_ret
  exact ⟨y, ov, fv, S, rfl, P.out, W, bb⟩

set_option maxHeartbeats 4000000 in
theorem visit_any (w0 : World) (B b g n c : Nat) (A : Option Addr) (cs : List Cl) (hcs : CS w0 B A n cs) (hrf : ∀ cl ∈ cs, Hps.okRefs cs cl.r = true) (h3 : ∀ cl ∈ cs, cl.r.length ≤ 3) (hn : n ≤ 40) (hB : B ≤ w0.heap.size) (fuel : Nat) :
    ∀ (v : Nat) (w : World) (ov fv : Value) (S : Hps.Tw), S.t.count 0 ≤ fuel → v < n → Hps.TwOk cs S → WkSt w B b g (.slice A n c) n ov fv S → Below B w0 w →
    Calls Tryd.prog 122 #[.pointer (some ⟨b, 0, none⟩), .int .i64 v] w (VisitGave w0 B b g n c A cs S v) := by
  have hlc := hcs.1
  have HRF := Lib.hid hrf
  have HC3 := Lib.hid h3
  clear hrf h3
  induction fuel with
  | zero =>
    intro v w ov fv S hz hv ok W bb
    have hl := List.getElem?_eq_getElem (show v < S.t.length by have := W.len; omega)
    refine visit_seen w0 B b g n c A cs v w ov fv S _ hl (fun e => ?_) ok W bb
    rw [e] at hl
    have h1 := List.count_pos_iff.2 (List.mem_of_getElem? hl)
    omega
  | succ fuel ih =>
    intro v w ov fv S hz hv ok W bb
    obtain ⟨g', o', y, e1, _, hy, c1⟩ := W.t.reads.at_ hv
    injection e1 with e1
    injection e1 with e2 e3
    subst e2 e3
    rw [Nat.zero_add] at c1
    have x2 : w.cell? ⟨b, 2, none⟩ = some (.slice (some ⟨g, 0, none⟩) n n) := W.box.cell 2
    have hv' : (v : Int) < n := by omega
    have OK := Lib.hid ok
    by_cases h0 : y = 0
    · subst h0
      have IN := Lib.hid (Hps.TwIn.enter ok hy)
      have hmet : S.met < 40 := by
        have h1 := (IN.out.ok).cnt
        have h2 := ok.le
        simp only at h1
        omega
      have hcnt : (S.t.set v ((S.met : Int) + 1)).count 0 ≤ fuel := by
        have := Hps.count_set0 (y := (S.met : Int) + 1) hy (by omega)
        omega
      have x1 : w.cell? ⟨b, 1, none⟩ = some (.int .i64 S.met) := W.box.cell 1
      have f1 : w.frozen? ⟨b, 1, none⟩ = false := W.box.frozen 1
      have W1 := W.met (S.met + 1)
      have b1 := bb.setCell (p := ⟨b, 1, none⟩) W.lo (.int .i64 ((S.met + 1 : Nat) : Int))
      have hu : IntKind.i64.wrap ((S.met : Int) + 1) = (S.met : Int) + 1 := IntWalk.i64_in _ (by omega)
      rw [show ((S.met + 1 : Nat) : Int) = (S.met : Int) + 1 by omega] at b1 W1
      obtain ⟨w1, hw1⟩ : ∃ w1, w.setCell ⟨b, 1, none⟩ (.int .i64 ((S.met : Int) + 1)) = w1 := ⟨_, rfl⟩
      rw [hw1] at b1 W1
      have y1 : w1.cell? ⟨b, 1, none⟩ = some (.int .i64 ((S.met : Int) + 1)) := by have := W1.box.cell 1; rw [this]; simp
      have y2 : w1.cell? ⟨b, 2, none⟩ = some (.slice (some ⟨g, 0, none⟩) n n) := W1.box.cell 2
      have d1 : w1.cell? ⟨g, v, none⟩ = some (.int .i64 0) := by
        obtain ⟨g', o', y, e1, _, hy2, c1⟩ := W1.t.reads.at_ hv
        injection e1 with e1
        injection e1 with e2 e3
        subst e2 e3
        rw [Nat.zero_add] at c1
        rw [hy] at hy2
        rw [c1, ← Option.some.inj hy2]
      have fz : w1.frozen? ⟨g, v, none⟩ = false := W1.t.frozen W1.len v
      clear ok hy
      go_enter Tryd.func122, Tryd.ntmps122
      have hmlt := OK.out.le
      obtain ⟨gc, oc, cl, A', q, cc, e1, hgc, hcl, _, _, d3, hmc, hi⟩ := hcs.at_ hv
      subst e1
      have HCL := Lib.hid hcl
      have hq3 : q ≤ 3 := by have := HC3.out cl (List.mem_of_getElem? hcl); have := hi.1; omega
      have HOK := Lib.hid (HRF.out cl (List.mem_of_getElem? hcl))
      have hql := hi.1
      clear hcl
      have W2 := (W1.time v ((S.met : Int) + 1)).up (Below.refl _ _).drew
      have b2 := (b1.setCell (p := ⟨g, v, none⟩) (World.ownsRow.lt W1.t g rfl).1 (.int .i64 ((S.met : Int) + 1))).drew
      go_wp2_with fail
      go_region
      obtain ⟨w2, hw2⟩ : ∃ w2, (w1.setCell ⟨g, v, none⟩ (.int .i64 ((S.met : Int) + 1))).drew = w2 := ⟨_, rfl⟩
      rw [hw2] at W2 b2 ⊢
      clear hw2 W1 W y1 y2 d1 fz x1 x2 f1 c1 hu b1 hw1
      have z3 : w2.cell? ⟨b, 3, none⟩ = some ov := W2.box.cell 3
      have SA := W2.up ((Below.refl w2.heap.size w2).alloc (Nat.le_refl _) (.cells #[.int .i64 v] 3))
      have rr : IS (w2.alloc (.cells #[.int .i64 v] 3)) (w2.alloc (.cells #[.int .i64 v] 3)).heap.size (some ⟨w2.heap.size, 0, none⟩) 1 [(v : Int)] := (own_oneI w2 v 0 (Nat.zero_le _)).reads
      have sz2 := b2.size
      have hsz : B ≤ (w2.alloc (.cells #[.int .i64 v] 3)).heap.size := by simp; omega
      have bna := b2.alloc (by omega) (.cells #[.int .i64 v] 3)
      have hol : S.o.length + 1 ≤ 1099511627776 := by have := OK.out.few; omega
      go_wp2_with (at_builtin; refine wpList_appendI rfl (.tmp 44) (.tmp 46) rfl B _ S.o rfl SA.o (some ⟨w2.heap.size, 0, none⟩) 1 1 _ [(v : Int)] rfl rr hol hsz ?_; intro v5 w5 o5 g5 s5; obtain ⟨S5, f5, z5⟩ := SA.grow o5 g5 s5; have bn5 := (bna.grown g5 hsz (fun k hk => (World.ownsRow.lt SA.o k hk).1)).setCell (p := ⟨b, 3, none⟩) SA.lo v5; obtain ⟨A5, c5, e5, _⟩ := o5.form; generalize (S.o ++ [(v : Int)]).length = l5 at e5; clear o5 g5 s5; subst e5; have q0 : (w5.setCell ⟨b, 3, none⟩ (.slice A5 l5 c5)).cell? ⟨b, 0, none⟩ = some (.slice (some ⟨gc, oc, none⟩) n c) := S5.box.cell 0; have q2 : (w5.setCell ⟨b, 3, none⟩ (.slice A5 l5 c5)).cell? ⟨b, 2, none⟩ = some (.slice (some ⟨g, 0, none⟩) n n) := S5.box.cell 2; have q4 : (w5.setCell ⟨b, 3, none⟩ (.slice A5 l5 c5)).cell? ⟨g, v, none⟩ = some (.int .i64 ((S.met : Int) + 1)) := S5.t_at IN.out.tv; have q5 := (bn5.cell (p := ⟨gc, oc + v * 3 + 2, none⟩) hgc).trans d3)
      go_loopw [5, 66] (fun lv i wr => ∃ (k : Nat) (m : Int) (ov fv : Value) (S1 : Hps.Tw), k ≤ q ∧ i = .int .i64 k ∧ lv = .int .i64 m ∧ Hid (Hps.TwIn cs S v (cl.r.take k) m S1) ∧ WkSt wr B b g (.slice (some ⟨gc, oc, none⟩) n c) n ov fv S1 ∧ Below B w0 wr) (fun _ i _ => q - (intOf i).toNat)
      case atStart => exact ⟨0, (S.met : Int) + 1, _, _, _, Nat.zero_le _, rfl, rfl, IN, S5, bn5⟩
      case round =>
        clear S5 q0 q2 q4 q5 bn5 z3 z5 f5 IN SA rr sz2 hsz bna W2 b2
        obtain ⟨k, m, ov, fv, S1, hk, rfl, rfl, IN, W, bb⟩ := hrel
        by_cases hlt : k < q
        · obtain ⟨gr, or, x, e2, hgr, hx, d0⟩ := (hi.below bb).at_ hlt
          subst e2
          have hlt' : (k : Int) < q := by omega
          have HT := Lib.hid (take_snocI hx)
          have hox := Hps.okRefs_at HOK.out hx
          by_cases hm1 : x = -1
          · subst hm1
            have IN2 := Lib.hid IN.out.skip
            rw [← HT.out] at IN2
            clear hx hox
            go_wp2_with fail
            go_roundw
            case rel => exact ⟨k + 1, m, ov, fv, S1, by omega, by go_num, rfl, IN2, W, bb⟩
            case measure => simp [intOf]; omega
          · have hne : (x != -1) = true := by rw [bne_iff_ne]; exact hm1
            have hx0 : 0 ≤ x := by have := Hps.okRef_lo hox; omega
            obtain ⟨y, rfl, hy, _⟩ := Hps.okRef_nat hox hx0
            rw [hlc] at hy
            have HE := Lib.hid (show Hps.Edge cs v y from ⟨cl, HCL.out, List.mem_of_getElem? hx⟩)
            have hfl : S1.t.count 0 ≤ fuel := by
              have e1 := IN.out.ok.cnt
              have e2 := OK.out.cnt
              have e3 := IN.out.met
              omega
            have HC := Lib.hid (ih y wr ov fv S1 hfl hy IN.out.ok W bb)
            clear hx hox hm1
            go_wp2_with fail
            refine HC.out.mono ?_
            rintro e w3 ⟨m2, ov2, fv2, S2, rfl, P, W2, bb2⟩
            have IN2 := Lib.hid (IN.out.step P HE.out)
            rw [← HT.out] at IN2
            clear HC P W bb
            go_wp2_with fail
            go_roundw
            case rel => exact ⟨k + 1, _, ov2, fv2, S2, by omega, by go_num, rfl, by rw [show min m m2 = if m2 < m then m2 else m by split <;> omega] at IN2; exact IN2, W2, bb2⟩
            case measure => simp [intOf]; omega
        · obtain rfl : k = q := by omega
          rw [List.take_of_length_le (by omega)] at IN
          have q2 : wr.cell? ⟨b, 2, none⟩ = some (.slice (some ⟨g, 0, none⟩) n n) := W.box.cell 2
          have q4 := W.t_at IN.out.tv
          by_cases hm : m = (S.met : Int) + 1
          · subst hm
            obtain ⟨tl, ho, -⟩ := IN.out.opn
            have hnd := IN.out.ok.nd
            rw [ho, List.nodup_append] at hnd
            have hpre : (v : Int) ∉ S.o := fun hx => hnd.2.2 _ hx _ (by simp) rfl
            have hall : ∀ x ∈ (v : Int) :: tl, ∃ k : Nat, x = k ∧ k < n := fun x hx => by
              obtain ⟨j, y, h1, h2, _⟩ := IN.out.ok.opn x (by rw [ho, List.mem_append]; exact .inr hx)
              have := (List.getElem?_eq_some_iff.1 h2).1
              have := W.len
              exact ⟨j, h1, by omega⟩
            have hfw := IN.out.ok.few
            have hml := IN.out.ok.met_le
            have P := Lib.hid (IN.out.shut HCL.out ho)
            have HF := Lib.hid (findComponent_any B b g n _ ov fv S1 v S.o tl wr W ho hpre hall hn (by omega) (by omega) (by have := bb.size; omega))
            clear ho hnd hpre hall W IN HCL
            go_wp2_with fail
            refine HF.out.mono ?_
            rintro e w6 ⟨rfl, ov6, fv6, W6, b6⟩
            have bb6 := bb.trans b6
            go_wp2_with fail
            go_ret
            exact ⟨_, _, _, _, rfl, P.out, W6, bb6⟩
          · have hne : (m == (S.met : Int) + 1) = false := by rw [beq_eq_false_iff_ne]; exact hm
            have P := Lib.hid (IN.out.out HCL.out hm)
            clear IN hm
            go_wp2_with fail
            go_ret
            exact ⟨_, _, _, _, rfl, P.out, W, bb⟩
    · exact visit_seen w0 B b g n c A cs v w ov fv S y hy h0 ok W bb
end Go.Proofs.YtiojoailjiojjaaDoor
