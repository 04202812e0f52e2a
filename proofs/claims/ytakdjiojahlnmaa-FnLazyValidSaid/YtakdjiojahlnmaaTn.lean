/- What l20Lazy, DrawLazyValid and DrawLazyTake draw. No conditions. -/
import Derived.Test.YtakdjiojahlnmaaTe
import Derived.Test.YtakdjiojahlnmaaTc
import Derived.Test.YtakdjiojahlnmaaKn
import Derived.BigRegion
namespace Go.Proofs.Ytakdjiojahlnmaa
open Go.RowKit
set_option maxRecDepth 100000

theorem Hps.okLz.next {l : Lz} (h : Hps.okLz l) : Hps.okLz (Hps.takeLz l).1 := by
  rcases Hps.take_cases h with ⟨_, h1, _⟩ | ⟨k, e, _, _, _, h1, _⟩
  · exact h1
  · rw [e]
    exact h1
/-- while a lazy heap is drawn: it lies in the box b, the reader in gr -/
structure LzSt (w wr : World) (gr N b : Nat) (vc vr vm : Value) (h : Hp) (ms : List Bool) (i : Int) : Prop where
  own : OwnLz wr (w.heap.size + 1) vc vr vm h ms
  box : Rw wr b 30 #[vc, vr, vm, .int .i64 i]
  res : Rw wr w.heap.size 30 #[.slice none 0 0, .slice none 0 0, .slice none 0 0, .int .i64 0]
  rd : Rd wr gr N
  grown : w.grownBy wr (some gr)
  lo : w.heap.size + 1 ≤ b
  old : gr < w.heap.size
def DrewLz (w : World) (gr N : Nat) (e : Ending) (w' : World) : Prop :=
  ∃ (vc vr vm : Value) (h : Hp) (ms : List Bool) (i : Int), e = .returned (.agg #[vc, vr, vm, .int .i64 i]) ∧ OwnLz w' w.heap.size vc vr vm h ms ∧ SmallH h ∧ ms.length ≤ 41 ∧ Rd w' gr (N + 2000) ∧ w.grownBy w' (some gr)
section
variable {w wr w1 w5 : World} {gr N N' b g k : Nat} {vc vr vm vc' vr' vm' : Value} {h h' : Hp} {ms ms' : List Bool} {i : Int}
theorem LzSt.more (S : LzSt w wr gr N b vc vr vm h ms i) (hN : N ≤ N') : LzSt w wr gr N' b vc vr vm h ms i := ⟨S.own, S.box, S.res, S.rd.more hN, S.grown, S.lo, S.old⟩
theorem LzSt.pick (S : LzSt w wr gr N b vc vr vm h ms i) (hr : Rd w1 gr N') (hg : wr.grownBy w1 (some gr)) : LzSt w w1 gr N' b vc vr vm h ms i := by
  have h1 := S.lo
  have h2 := S.old
  obtain ⟨rvs, o⟩ := S.own
  exact ⟨⟨rvs, o.far hg (o.apart_below (by omega))⟩, S.box.far hg (fun e => by have := Option.some.inj e; omega), S.res.far hg (fun e => by have := Option.some.inj e; omega), hr, World.grownBy.trans S.grown hg, h1, h2⟩
theorem LzSt.up (S : LzSt w wr gr N b vc vr vm h ms i) (hb : Below wr.heap.size wr w1) : LzSt w w1 gr N b vc vr vm h ms i :=
  ⟨S.own.below hb (Nat.le_refl _), S.box.keep hb S.box.lt, S.res.keep hb S.res.lt, S.rd.below hb S.rd.lt, grown_below S.grown (hb.mono S.grown.size), S.lo, S.old⟩
theorem LzSt.next (S : LzSt w wr gr N b vc vr vm h ms i) (B : Below wr.heap.size wr w5) (ho : OwnLz w5 wr.heap.size vc' vr' vm' h' ms') (j : Int) :
    LzSt w ((((w5.setCell ⟨b, 0, none⟩ vc').setCell ⟨b, 1, none⟩ vr').setCell ⟨b, 2, none⟩ vm').setCell ⟨b, 3, none⟩ (.int .i64 j)) gr N b vc' vr' vm' h' ms' j := by
  have S5 := S.up B
  have hlt := S.box.lt
  have hlo := S.lo
  have hold := S.old
  obtain ⟨rvs, o⟩ := ho
  have ap := o.apart_below hlt
  have hsz := S.grown.size
  have hB : Below w.heap.size w5 ((((w5.setCell ⟨b, 0, none⟩ vc').setCell ⟨b, 1, none⟩ vr').setCell ⟨b, 2, none⟩ vm').setCell ⟨b, 3, none⟩ (.int .i64 j)) := ((((Below.refl w.heap.size w5).setCell (p := ⟨b, 0, none⟩) (by show w.heap.size ≤ b; omega) _).setCell (p := ⟨b, 1, none⟩) (by show w.heap.size ≤ b; omega) _).setCell (p := ⟨b, 2, none⟩) (by show w.heap.size ≤ b; omega) _).setCell (p := ⟨b, 3, none⟩) (by show w.heap.size ≤ b; omega) _
  have hne : w.heap.size ≠ b := by omega
  exact ⟨⟨rvs, ((((o.put ap 0 vc').put ap 1 vr').put ap 2 vm').put ap 3 _).base (by omega)⟩, by simpa using (((S5.box.put 0 vc').put 1 vr').put 2 vm').put 3 (.int .i64 j), (((S5.res.other hne _).other hne _).other hne _).other hne _, S5.rd.below hB hold, grown_below S5.grown hB, hlo, hold⟩
/-- the number changes -/
theorem LzSt.at_ (S : LzSt w wr gr N b vc vr vm h ms i) (j : Int) : LzSt w (wr.setCell ⟨b, 3, none⟩ (.int .i64 j)) gr N b vc vr vm h ms j := by
  have hlo := S.lo
  have hold := S.old
  obtain ⟨rvs, o⟩ := S.own
  have hB : Below w.heap.size wr (wr.setCell ⟨b, 3, none⟩ (.int .i64 j)) := (Below.refl w.heap.size wr).setCell (p := ⟨b, 3, none⟩) (by show w.heap.size ≤ b; omega) _
  exact ⟨⟨rvs, o.put (o.apart_lazy S.box) 3 _⟩, by simpa using S.box.put 3 (.int .i64 j), S.res.other (by omega) _, S.rd.below hB hold, grown_below S.grown hB, hlo, hold⟩
/-- the marks become longer -/
theorem LzSt.app (S : LzSt w wr gr N b vc vr vm h ms i) (o1 : OwnO w1 (w.heap.size + 1) vm' ms') (g1 : wr.grownBy w1 vm.ownBlock) (s1 : vm'.ownBlock = vm.ownBlock ∨ vm'.ownBlock = some wr.heap.size) : LzSt w (w1.setCell ⟨b, 2, none⟩ vm') gr N b vc vr vm' h ms' i := by
  have hlo := S.lo
  have hold := S.old
  have ow := S.own.app o1 g1 s1
  obtain ⟨rvs0, o0⟩ := S.own
  have ap0 := o0.apart_lazy S.box
  have hvb : ∀ k, vm.ownBlock = some k → w.heap.size + 1 ≤ k := fun k hk => (World.ownsRow.lt o0.mks k hk).1
  have hB0 : Below w.heap.size wr w1 := (Below.refl w.heap.size wr).grown g1 (by have := S.grown.size; omega) (fun k hk => by have := hvb k hk; omega)
  have hbx : Rw w1 b 30 #[vc, vr, vm, .int .i64 i] := S.box.far g1 (fun e => by
    rcases ap0 vm (by simp) with e1 | e1
    · rw [e1] at e; cases e
    · exact e1 e.symm)
  have hB : Below w.heap.size w1 (w1.setCell ⟨b, 2, none⟩ vm') := (Below.refl w.heap.size w1).setCell (p := ⟨b, 2, none⟩) (by show w.heap.size ≤ b; omega) _
  obtain ⟨rvs, o⟩ := ow
  exact ⟨⟨rvs, o.put (o.apart_lazy hbx) 2 _⟩, by simpa using hbx.put 2 vm', (S.res.far g1 (fun e => by have := hvb _ e.symm; omega)).other (by omega) _, (S.rd.below hB0 hold).below hB hold, grown_below (grown_below S.grown hB0) hB, hlo, hold⟩
theorem LzSt.boxfar (S : LzSt w wr gr N b vc vr vm h ms i) (g1 : wr.grownBy w1 vm.ownBlock) : Rw w1 b 30 #[vc, vr, vm, .int .i64 i] := by
  obtain ⟨rvs0, o0⟩ := S.own
  exact S.box.far g1 (fun e => by
    rcases o0.apart_lazy S.box vm (by simp) with e1 | e1
    · rw [e1] at e; cases e
    · exact e1 e.symm)
/-- a mark changes -/
theorem LzSt.flip {K : Nat} {c : Nat} (S : LzSt w wr gr N b vc vr (.slice (some ⟨g, 0, none⟩) K c) h ms i) (hn : ms.length = K) (t : Bool) : LzSt w (wr.setCell ⟨g, k, none⟩ (.bool t)) gr N b vc vr (.slice (some ⟨g, 0, none⟩) K c) h (ms.set k t) i := by
  have hlo := S.lo
  have hold := S.old
  obtain ⟨rvs, o⟩ := S.own
  have hg := (World.ownsRow.lt o.mks g rfl)
  have hne : b ≠ g := fun e => by
    rcases o.apart_lazy S.box (.slice (some ⟨g, 0, none⟩) K c) (by simp) with e1 | e1
    · cases e1
    · exact e1 (by rw [e]; rfl)
  have hB : Below w.heap.size wr (wr.setCell ⟨g, k, none⟩ (.bool t)) := (Below.refl w.heap.size wr).setCell (p := ⟨g, k, none⟩) (by show w.heap.size ≤ g; omega) _
  exact ⟨⟨rvs, o.heap.far (put_any wr g k _) (fun u hu => o.sep u hu), o.mks.put' hn t, o.sep⟩, S.box.other hne _, S.res.other (by omega) _, S.rd.below hB hold, grown_below S.grown hB, hlo, hold⟩
/-- the end -/
theorem LzSt.out (S : LzSt w wr gr N b vc vr vm h ms i) (hN : N ≤ N' + 2000) (hs : SmallH h) (hl : ms.length ≤ 41) : DrewLz w gr N' (.returned (.agg #[vc, vr, vm, .int .i64 i])) ((((wr.setCell ⟨w.heap.size, 0, none⟩ vc).setCell ⟨w.heap.size, 1, none⟩ vr).setCell ⟨w.heap.size, 2, none⟩ vm).setCell ⟨w.heap.size, 3, none⟩ (.int .i64 i)) := by
  have hlo := S.lo
  have hold := S.old
  obtain ⟨rvs, o⟩ := S.own
  have ap := o.apart_below (g := w.heap.size) (by omega)
  have hB : Below w.heap.size wr ((((wr.setCell ⟨w.heap.size, 0, none⟩ vc).setCell ⟨w.heap.size, 1, none⟩ vr).setCell ⟨w.heap.size, 2, none⟩ vm).setCell ⟨w.heap.size, 3, none⟩ (.int .i64 i)) := ((((Below.refl w.heap.size wr).setCell (p := ⟨w.heap.size, 0, none⟩) (Nat.le_refl _) _).setCell (p := ⟨w.heap.size, 1, none⟩) (Nat.le_refl _) _).setCell (p := ⟨w.heap.size, 2, none⟩) (Nat.le_refl _) _).setCell (p := ⟨w.heap.size, 3, none⟩) (Nat.le_refl _) _
  exact ⟨vc, vr, vm, h, ms, i, rfl, ⟨rvs, ((((o.put ap 0 vc).put ap 1 vr).put ap 2 vm).put ap 3 _).base (by omega)⟩, hs, hl, (S.rd.below hB hold).more hN, grown_below S.grown hB⟩
end

set_option maxHeartbeats 16000000 in
theorem l20Lazy_any (gr N : Nat) (n : Int) (w : World) (h : Rd w gr N) (hN : N ≤ 5000) (hn1 : 1 ≤ n) (hn : n ≤ 1000) :
    Calls Try.prog 55 #[.pointer (some ⟨gr, 0, none⟩), .int .i64 n] w (DrewLz w gr N) := by
  have hgl := h.lt
  have h0 : Rd (w.alloc (.cells #[.slice none 0 0, .slice none 0 0, .slice none 0 0, .int .i64 0] 30)) gr N := h.below ((Below.refl w.heap.size w).alloc (Nat.le_refl _) _) hgl
  have r0 := Rw.new w 30 #[.slice none 0 0, .slice none 0 0, .slice none 0 0, .int .i64 0]
  have g0 : w.grownBy (w.alloc (.cells #[.slice none 0 0, .slice none 0 0, .slice none 0 0, .int .i64 0] 30)) (some gr) := World.grownBy_alloc _ _ _
  have z0 : w.heap.size + 1 = (w.alloc (.cells #[.slice none 0 0, .slice none 0 0, .slice none 0 0, .int .i64 0] 30)).heap.size := by simp
  go_enter Try.func55, Try.ntmps55
  go_upto_region 1 with fail
  generalize w.alloc (.cells #[.slice none 0 0, .slice none 0 0, .slice none 0 0, .int .i64 0] 30) = w0 at h0 r0 g0 z0 ⊢
  go_wp2_with fail
  refine (l20Heap_any gr N 0 _ h0 (by omega) (by omega) (by omega)).mono ?_
  rintro e w1 ⟨A, nn, c, R, m, d, hh, rfl, hc, hd, HFx, hv0, hsm, hr1, g1⟩
  have hv := hv0 rfl
  have HS1 := HFx w1 (Nat.le_refl _) (fun _ _ _ => rfl)
  have hnn := HS1.cells.1
  have hmm := HS1.roots.1
  have r1 := r0.far g1 (fun e => by have := Option.some.inj e; omega)
  have G1 := World.grownBy.trans g0 g1
  have hs1 := g1.size
  have hn41 : nn ≤ 41 := by have := hsm.1; omega
  have hm4 : m ≤ 4 := by have := hsm.2.1; omega
  clear HFx hv0 h0 r0 g0 g1 hsm hnn hmm
  go_wp2_with fail
  refine (mLazyStart_any A R nn c m d hh w1 HS1 (by omega) (by omega)).mono ?_
  rintro e w2 ⟨vc, vr, vm, rfl, ho, b2⟩
  have OK0 := Lib.hid (Hps.start_ok hv)
  obtain ⟨l0, hl0⟩ : ∃ l0, Hps.startLz hh = l0 := ⟨_, rfl⟩
  rw [hl0] at ho OK0 ⊢
  clear hl0 hv
  obtain ⟨A1, n1, c1, R1, m1, d1, D1, q1, e1, rfl, rfl, rfl⟩ := ho.slices
  have B2 : Below w1.heap.size w1 (w2.alloc (.cells #[.slice A1 n1 c1, .slice R1 m1 d1, .slice D1 q1 e1, .int .i64 l0.i] 30)) := b2.alloc b2.size _
  have r2 := (r1.keep b2 r1.lt).alloc (.cells #[.slice A1 n1 c1, .slice R1 m1 d1, .slice D1 q1 e1, .int .i64 l0.i] 30)
  have q2 := Rw.new w2 30 #[.slice A1 n1 c1, .slice R1 m1 d1, .slice D1 q1 e1, .int .i64 l0.i]
  have o2 := ho.below ((Below.refl w2.heap.size w2).alloc (Nat.le_refl _) (.cells #[.slice A1 n1 c1, .slice R1 m1 d1, .slice D1 q1 e1, .int .i64 l0.i] 30)) (Nat.le_refl _)
  have hs2 := b2.size
  have S0 : LzSt w (w2.alloc (.cells #[.slice A1 n1 c1, .slice R1 m1 d1, .slice D1 q1 e1, .int .i64 l0.i] 30)) gr (N + 700) w2.heap.size _ _ _ l0.s l0.ms l0.i :=
    ⟨o2.base (by omega), q2, r2, hr1.below B2 (by omega), grown_below G1 (B2.mono (by omega)), by omega, hgl⟩
  clear ho o2 r2 q2 B2 r1 G1 HS1 hr1 h b2
  go_upto_region 2 with fail
  generalize w2.alloc (.cells #[.slice A1 n1 c1, .slice R1 m1 d1, .slice D1 q1 e1, .int .i64 l0.i] 30) = w3 at S0 ⊢
  generalize w2.heap.size = b at S0 ⊢
  go_wp2_with fail
  refine (pick_any gr (N + 700) 5 _ S0.rd (by omega) (by omega)).mono ?_
  rintro e w4 ⟨k0, rfl, ka, kb, hr4, g4⟩
  have kb' : k0 < 5 := by omega
  have S1 := S0.pick hr4 g4
  obtain ⟨k, rfl⟩ := Int.eq_ofNat_of_zero_le ka
  have hk5 : k ≤ 5 := by omega
  have HX := Lib.hid (show ∃ (l : Lz) (vc vr vm : Value), Hps.okLz l ∧ LzSt w w4 gr (N + 701) b vc vr vm l.s l.ms l.i from ⟨l0, _, _, _, OK0.out, S1⟩)
  clear S0 S1 hr4 g4 ka kb kb' OK0
  go_wp2_with fail
  go_loopw [6] (fun v wr => ∃ k : Nat, k ≤ 5 ∧ v = .int .i64 k ∧ Hid (∃ (l : Lz) (vc vr vm : Value), Hps.okLz l ∧ LzSt w wr gr (N + 701) b vc vr vm l.s l.ms l.i)) (fun v _ => (intOf v).toNat)
  case atStart => exact ⟨k, hk5, rfl, HX⟩
  case round =>
    clear HX hk5
    obtain ⟨k, hk5, rfl, HX⟩ := hrel
    obtain ⟨l, vc, vr, vm, ok, S⟩ := HX.out
    clear HX
    have h40 := (Hps.valid_small ok.1).1
    have h4 : l.s.rt.length ≤ 4 := by rw [(Hps.valid_small ok.1).2.1]; omega
    have hml : l.ms.length = l.s.cs.length := ok.2.1
    have hms : l.ms.length ≤ 40 := by omega
    have HML := Lib.hid hml
    clear hml
    have OK := Lib.hid ok
    clear ok
    by_cases hk0 : 0 < k
    · have hk0' : (0 : Int) < k := by omega
      obtain ⟨rvs, o⟩ := S.own
      obtain ⟨A2, c2, R2, d2, D2, e2, rfl, rfl, rfl, hc2, hd2⟩ := o.slices
      have hr := Lib.hid o.heap.reads
      have hkk := Lib.hid o.mks.reads
      have OK2 := Lib.hid OK.out.next
      obtain ⟨i, hi⟩ : ∃ i, l.i = i := ⟨_, rfl⟩
      obtain ⟨n2, hn2⟩ : ∃ n2, l.s.cs.length = n2 := ⟨_, rfl⟩
      obtain ⟨m2, hm2⟩ : ∃ m2, l.s.rt.length = m2 := ⟨_, rfl⟩
      obtain ⟨q2, hq2⟩ : ∃ q2, l.ms.length = q2 := ⟨_, rfl⟩
      have HLE := Lib.hid (show (⟨l.s, l.ms, i⟩ : Lz) = l by rw [← hi])
      rw [hn2] at S hr h40 hc2
      rw [hm2] at S hr h4 hd2
      rw [hq2] at S hkk hms
      rw [hi] at S
      have x0 : wr.cell? ⟨b, 0, none⟩ = some (.slice A2 n2 c2) := S.box.cell 0
      have x1 : wr.cell? ⟨b, 1, none⟩ = some (.slice R2 m2 d2) := S.box.cell 1
      have x2 : wr.cell? ⟨b, 2, none⟩ = some (.slice D2 q2 e2) := S.box.cell 2
      have x3 : wr.cell? ⟨b, 3, none⟩ = some (.int .i64 i) := S.box.cell 3
      clear o hi hn2 hm2 hq2 hc2 hd2
      go_wp2_with fail
      refine (mLazyTake_any A2 R2 D2 n2 c2 m2 d2 q2 e2 i l.s l.ms wr hr.out hkk.out (by omega) (by omega) (by omega)).mono ?_
      rw [HLE.out]
      rintro e w5 ⟨vc, vr, vm, rfl, ho, b5⟩
      obtain ⟨l2, hl2⟩ : ∃ l2, (Hps.takeLz l).1 = l2 := ⟨_, rfl⟩
      obtain ⟨z2, hz2⟩ : ∃ z2, (Hps.takeLz l).2 = z2 := ⟨_, rfl⟩
      rw [hl2] at OK2 ho ⊢
      rw [hz2]
      clear hl2 hz2 x0 x1 x2 x3 hr hkk HLE
      have S5 := S.up b5
      have S6 := S.next b5 ho l2.i
      obtain ⟨A3, n3, c3, R3, m3, d3, D3, q3, e3, rfl, rfl, rfl⟩ := ho.slices
      have f0 : w5.frozen? ⟨b, 0, none⟩ = false := S5.box.frozen 0
      have f1 : w5.frozen? ⟨b, 1, none⟩ = false := S5.box.frozen 1
      have f2 : w5.frozen? ⟨b, 2, none⟩ = false := S5.box.frozen 2
      have f3 : w5.frozen? ⟨b, 3, none⟩ = false := S5.box.frozen 3
      have y0 : w5.cell? ⟨b, 0, none⟩ = some (.slice A2 n2 c2) := S5.box.cell 0
      have y1 : w5.cell? ⟨b, 1, none⟩ = some (.slice R2 m2 d2) := S5.box.cell 1
      have y2 : w5.cell? ⟨b, 2, none⟩ = some (.slice D2 q2 e2) := S5.box.cell 2
      have y3 : w5.cell? ⟨b, 3, none⟩ = some (.int .i64 i) := S5.box.cell 3
      have HX := Lib.hid (show ∃ (l : Lz) (vc vr vm : Value), Hps.okLz l ∧ LzSt w ((((w5.setCell ⟨b, 0, none⟩ (.slice A3 n3 c3)).setCell ⟨b, 1, none⟩ (.slice R3 m3 d3)).setCell ⟨b, 2, none⟩ (.slice D3 q3 e3)).setCell ⟨b, 3, none⟩ (.int .i64 l2.i)) gr (N + 701) b vc vr vm l.s l.ms l.i from ⟨l2, _, _, _, OK2.out, S6⟩)
      clear ho S5 S6 b5 OK2 S OK HML
      go_wp2_with fail
      go_roundw
      case rel => exact ⟨k - 1, by omega, by go_num, HX⟩
      case measure => simp [intOf]; omega
    · obtain rfl : k = 0 := by omega
      obtain ⟨rvs, o⟩ := S.own
      obtain ⟨A2, c2, R2, d2, D2, e2, rfl, rfl, rfl, hc2, hd2⟩ := o.slices
      have HSM := Lib.hid (small_valid OK.out.1)
      obtain ⟨i, hi⟩ : ∃ i, l.i = i := ⟨_, rfl⟩
      obtain ⟨n2, hn2⟩ : ∃ n2, l.s.cs.length = n2 := ⟨_, rfl⟩
      obtain ⟨m2, hm2⟩ : ∃ m2, l.s.rt.length = m2 := ⟨_, rfl⟩
      obtain ⟨q2, hq2⟩ : ∃ q2, l.ms.length = q2 := ⟨_, rfl⟩
      have HQ2 := Lib.hid hq2
      rw [hn2] at S h40
      rw [hm2] at S h4
      rw [hq2] at S hms
      rw [hi] at S
      clear o hi hn2 hm2 hq2 hc2 hd2 OK HML h4
      go_wp2_with fail
      refine (odd_any gr (N + 701) n _ S.rd (by omega) (by omega) (by omega)).mono ?_
      rintro e w5 ⟨bo, rfl, hr5, g5⟩
      have S5 := S.pick hr5 g5
      clear S hr5 g5
      cases bo
      · have S6 := S5.more (N' := N + 703) (by omega)
        have b0 : w5.cell? ⟨b, 0, none⟩ = some (.slice A2 n2 c2) := S6.box.cell 0
        have b1 : w5.cell? ⟨b, 1, none⟩ = some (.slice R2 m2 d2) := S6.box.cell 1
        have b2 : w5.cell? ⟨b, 2, none⟩ = some (.slice D2 q2 e2) := S6.box.cell 2
        have b3 : w5.cell? ⟨b, 3, none⟩ = some (.int .i64 i) := S6.box.cell 3
        have fr0 : w5.frozen? ⟨w.heap.size, 0, none⟩ = false := S6.res.frozen 0
        have fr1 : w5.frozen? ⟨w.heap.size, 1, none⟩ = false := S6.res.frozen 1
        have fr2 : w5.frozen? ⟨w.heap.size, 2, none⟩ = false := S6.res.frozen 2
        have fr3 : w5.frozen? ⟨w.heap.size, 3, none⟩ = false := S6.res.frozen 3
        have rc0 : w5.cell? ⟨w.heap.size, 0, none⟩ = some (.slice none 0 0) := S6.res.cell 0
        have rc1 : w5.cell? ⟨w.heap.size, 1, none⟩ = some (.slice none 0 0) := S6.res.cell 1
        have rc2 : w5.cell? ⟨w.heap.size, 2, none⟩ = some (.slice none 0 0) := S6.res.cell 2
        have rc3 : w5.cell? ⟨w.heap.size, 3, none⟩ = some (.int .i64 0) := S6.res.cell 3
        have rs0 : ((((w5.setCell ⟨w.heap.size, 0, none⟩ (.slice A2 n2 c2)).setCell ⟨w.heap.size, 1, none⟩ (.slice R2 m2 d2)).setCell ⟨w.heap.size, 2, none⟩ (.slice D2 q2 e2)).setCell ⟨w.heap.size, 3, none⟩ (.int .i64 i)).cell? ⟨w.heap.size, 0, none⟩ = some (.slice A2 n2 c2) := ((((S6.res.put 0 (.slice A2 n2 c2)).put 1 (.slice R2 m2 d2)).put 2 (.slice D2 q2 e2)).put 3 (.int .i64 i)).cell 0
        have rs1 : ((((w5.setCell ⟨w.heap.size, 0, none⟩ (.slice A2 n2 c2)).setCell ⟨w.heap.size, 1, none⟩ (.slice R2 m2 d2)).setCell ⟨w.heap.size, 2, none⟩ (.slice D2 q2 e2)).setCell ⟨w.heap.size, 3, none⟩ (.int .i64 i)).cell? ⟨w.heap.size, 1, none⟩ = some (.slice R2 m2 d2) := ((((S6.res.put 0 (.slice A2 n2 c2)).put 1 (.slice R2 m2 d2)).put 2 (.slice D2 q2 e2)).put 3 (.int .i64 i)).cell 1
        have rs2 : ((((w5.setCell ⟨w.heap.size, 0, none⟩ (.slice A2 n2 c2)).setCell ⟨w.heap.size, 1, none⟩ (.slice R2 m2 d2)).setCell ⟨w.heap.size, 2, none⟩ (.slice D2 q2 e2)).setCell ⟨w.heap.size, 3, none⟩ (.int .i64 i)).cell? ⟨w.heap.size, 2, none⟩ = some (.slice D2 q2 e2) := ((((S6.res.put 0 (.slice A2 n2 c2)).put 1 (.slice R2 m2 d2)).put 2 (.slice D2 q2 e2)).put 3 (.int .i64 i)).cell 2
        have rs3 : ((((w5.setCell ⟨w.heap.size, 0, none⟩ (.slice A2 n2 c2)).setCell ⟨w.heap.size, 1, none⟩ (.slice R2 m2 d2)).setCell ⟨w.heap.size, 2, none⟩ (.slice D2 q2 e2)).setCell ⟨w.heap.size, 3, none⟩ (.int .i64 i)).cell? ⟨w.heap.size, 3, none⟩ = some (.int .i64 i) := ((((S6.res.put 0 (.slice A2 n2 c2)).put 1 (.slice R2 m2 d2)).put 2 (.slice D2 q2 e2)).put 3 (.int .i64 i)).cell 3
        have DD := Lib.hid (S6.out (N' := N) (by omega) HSM.out (by rw [HQ2.out]; omega))
        clear S6
        go_wp2_with fail
        exact bodyPost_ret (v := .agg #[.slice A2 n2 c2, .slice R2 m2 d2, .slice D2 q2 e2, .int .i64 i]) (by simp [results, Try.results55, go_sem, *]) rfl DD.out
      go_wp2_with fail
      refine (pick_any gr (N + 702) 3 _ S5.rd (by omega) (by omega)).mono ?_
      rintro e w6 ⟨k3, rfl, ka, kb, hr6, g6⟩
      have S6 := S5.pick hr6 g6
      clear S5 hr6 g6
      have hk3 : k3 = 0 ∨ k3 = 1 ∨ k3 = 2 := by omega
      clear ka kb
      obtain rfl | rfl | rfl := hk3
      case inl =>
        go_upto_region 12 with fail
        refine wp_region_inv (by kernel_rfl) (by kernel_rfl) (fun L ac ww => ∃ t48 t49 t50 t51 t52 t53 t54 t55 t56 t57 : Value, ac = { tmps := #[Value.pointer (some { block := gr, off := 0 }), Value.int IntKind.i64 n, undef, undef, Value.pointer (some { block := w.heap.size, off := 0 }), Value.pointer (some { block := b, off := 0 }), Value.int IntKind.i64 0, undef, Value.pointer (some { block := gr, off := 0 }), heapV A nn c R m d, Value.agg #[Value.slice A1 n1 c1, Value.slice R1 m1 d1, Value.slice D1 q1 e1, Value.int IntKind.i64 l0.i], Value.pointer (some { block := gr, off := 0 }), Value.int IntKind.i64 ↑k, Value.int IntKind.i64 0, Value.bool false, u15, u16, u17, u18, u19, u20, u21, Value.pointer (some { block := gr, off := 0 }), Value.int IntKind.i64 n, Value.bool true, Value.pointer (some { block := gr, off := 0 }), Value.int IntKind.i64 0, undef, undef, undef, undef, undef, undef, undef, undef, undef, undef, undef, undef, undef, undef, undef, undef, undef, undef, undef, Value.bool true, Value.bool true, t48, t49, t50, t51, t52, t53, t54, t55, t56, t57, undef, undef, undef, undef, undef, undef, undef, undef], defers := [] } ∧ (L 10 = false → LzSt w ww gr (if L 6 = true then N + 704 else N + 703) b (.slice A2 n2 c2) (.slice R2 m2 d2) (.slice D2 q2 e2) l.s l.ms i) ∧ (L 0 = true → t48 = .pointer (some ⟨b, 2, none⟩)) ∧ (L 1 = true → t49 = .slice D2 q2 e2) ∧ (L 2 = true → t50 = .int .i64 (q2 : Nat)) ∧ (L 3 = true → t51 = .int .i64 ((q2 : Int) + 1)) ∧ (L 4 = true → ∃ gt : Nat, t52 = .slice (some ⟨gt, 0, none⟩) 2 2 ∧ (L 10 = false → Rw ww gt 3 #[.int .i64 (-1), .int .i64 ((q2 : Int) + 1)]) ∧ gr < gt) ∧ (L 5 = true → t53 = .pointer (some ⟨gr, 0, none⟩)) ∧ (L 6 = true → ∃ kk : Nat, t54 = .int .i64 kk ∧ kk < 2) ∧ (L 7 = true → ∃ gt kk : Nat, t55 = .pointer (some ⟨gt, kk, none⟩) ∧ kk < 2 ∧ gr < gt ∧ (L 10 = false → Rw ww gt 3 #[.int .i64 (-1), .int .i64 ((q2 : Int) + 1)])) ∧ (L 8 = true → ∃ y : Int, t56 = .int .i64 y) ∧ (L 9 = true → t57 = .pointer (some ⟨b, 3, none⟩)) ∧ (L 10 = true → (∀ q, q < 10 → L q = true) ∧ ∃ y : Int, LzSt w ww gr (N + 704) b (.slice A2 n2 c2) (.slice R2 m2 d2) (.slice D2 q2 e2) l.s l.ms y)) ?h0 ?hstep ?hdone
        case h0 => exact ⟨_, _, _, _, _, _, _, _, _, _, rfl, fun _ => by rw [if_neg Bool.false_ne_true]; exact S6.up (Below.refl _ _).drew, (fun h => absurd h Bool.false_ne_true), (fun h => absurd h Bool.false_ne_true), (fun h => absurd h Bool.false_ne_true), (fun h => absurd h Bool.false_ne_true), (fun h => absurd h Bool.false_ne_true), (fun h => absurd h Bool.false_ne_true), (fun h => absurd h Bool.false_ne_true), (fun h => absurd h Bool.false_ne_true), (fun h => absurd h Bool.false_ne_true), (fun h => absurd h Bool.false_ne_true), (fun h => absurd h Bool.false_ne_true)⟩
        case hstep =>
          rintro L ac ww i o ho hL hd ⟨t48, t49, t50, t51, t52, t53, t54, t55, t56, t57, rfl, I0, f0, f1, f2, f3, f4, f5, f6, f7, f8, f9, f10⟩
          have hi : i < 11 := (Array.getElem?_eq_some_iff.1 ho).1
          obtain rfl | rfl | rfl | rfl | rfl | rfl | rfl | rfl | rfl | rfl | rfl : i = 0 ∨ i = 1 ∨ i = 2 ∨ i = 3 ∨ i = 4 ∨ i = 5 ∨ i = 6 ∨ i = 7 ∨ i = 8 ∨ i = 9 ∨ i = 10 := by omega
          · obtain rfl := Option.some.inj ho
            have hLS : L 10 = false := by
              cases e : L 10
              · rfl
              · exact absurd ((f10 e).1 0 (by decide)) (by rw [hL]; decide)
            have S := I0 hLS
            refine wpOp_step rfl (fun K' hK => ?_)
            go_simp
            refine hK _ _ ?_
            exact ⟨_, _, _, _, _, _, _, _, _, _, rfl, (fun _ => by
              rw [upd_other (by decide)]
              exact S), (fun _ => rfl), (kp f1), (kp f2), (kp f3), (fun h => by
              obtain ⟨gt, e, r, hgt⟩ := f4 (upd_ne h (by decide))
              exact ⟨gt, e, fun h6 => r (by rw [upd_other (by decide)] at h6; exact h6), hgt⟩), (kp f5), (fun h => f6 (upd_ne h (by decide))), (fun h => by
              obtain ⟨gt, kk, e, hkk, hgt, r⟩ := f7 (upd_ne h (by decide))
              exact ⟨gt, kk, e, hkk, hgt, fun h6 => r (by rw [upd_other (by decide)] at h6; exact h6)⟩), (fun h => f8 (upd_ne h (by decide))), (kp f9), (fun h => absurd hLS (by rw [upd_ne h (by decide)]; decide))⟩
          · obtain rfl := Option.some.inj ho
            have g0 := f0 (hd ⟨0, .data⟩ (by simp) rfl)
            subst g0
            have hLS : L 10 = false := by
              cases e : L 10
              · rfl
              · exact absurd ((f10 e).1 1 (by decide)) (by rw [hL]; decide)
            have S := I0 hLS
            have z2 : ww.cell? ⟨b, 2, none⟩ = some (.slice D2 q2 e2) := S.box.cell 2
            refine wpOp_step rfl (fun K' hK => ?_)
            go_simp
            refine hK _ _ ?_
            exact ⟨_, _, _, _, _, _, _, _, _, _, rfl, (fun _ => by
              rw [upd_other (by decide)]
              exact S), (kp f0), (fun _ => rfl), (kp f2), (kp f3), (fun h => by
              obtain ⟨gt, e, r, hgt⟩ := f4 (upd_ne h (by decide))
              exact ⟨gt, e, fun h6 => r (by rw [upd_other (by decide)] at h6; exact h6), hgt⟩), (kp f5), (fun h => f6 (upd_ne h (by decide))), (fun h => by
              obtain ⟨gt, kk, e, hkk, hgt, r⟩ := f7 (upd_ne h (by decide))
              exact ⟨gt, kk, e, hkk, hgt, fun h6 => r (by rw [upd_other (by decide)] at h6; exact h6)⟩), (fun h => f8 (upd_ne h (by decide))), (kp f9), (fun h => absurd hLS (by rw [upd_ne h (by decide)]; decide))⟩
          · obtain rfl := Option.some.inj ho
            have g1 := f1 (hd ⟨1, .data⟩ (by simp) rfl)
            subst g1
            have hLS : L 10 = false := by
              cases e : L 10
              · rfl
              · exact absurd ((f10 e).1 2 (by decide)) (by rw [hL]; decide)
            have S := I0 hLS
            refine wpOp_step rfl (fun K' hK => ?_)
            go_simp
            refine hK _ _ ?_
            exact ⟨_, _, _, _, _, _, _, _, _, _, rfl, (fun _ => by
              rw [upd_other (by decide)]
              exact S), (kp f0), (kp f1), (fun _ => rfl), (kp f3), (fun h => by
              obtain ⟨gt, e, r, hgt⟩ := f4 (upd_ne h (by decide))
              exact ⟨gt, e, fun h6 => r (by rw [upd_other (by decide)] at h6; exact h6), hgt⟩), (kp f5), (fun h => f6 (upd_ne h (by decide))), (fun h => by
              obtain ⟨gt, kk, e, hkk, hgt, r⟩ := f7 (upd_ne h (by decide))
              exact ⟨gt, kk, e, hkk, hgt, fun h6 => r (by rw [upd_other (by decide)] at h6; exact h6)⟩), (fun h => f8 (upd_ne h (by decide))), (kp f9), (fun h => absurd hLS (by rw [upd_ne h (by decide)]; decide))⟩
          · obtain rfl := Option.some.inj ho
            have g2 := f2 (hd ⟨2, .data⟩ (by simp) rfl)
            subst g2
            have hLS : L 10 = false := by
              cases e : L 10
              · rfl
              · exact absurd ((f10 e).1 3 (by decide)) (by rw [hL]; decide)
            have S := I0 hLS
            have hwq : IntKind.i64.wrap ((q2 : Int) + 1) = (q2 : Int) + 1 := IntWalk.i64_in _ (by omega)
            refine wpOp_step rfl (fun K' hK => ?_)
            go_simp
            refine hK _ _ ?_
            exact ⟨_, _, _, _, _, _, _, _, _, _, rfl, (fun _ => by
              rw [upd_other (by decide)]
              exact S), (kp f0), (kp f1), (kp f2), (fun _ => rfl), (fun h => by
              obtain ⟨gt, e, r, hgt⟩ := f4 (upd_ne h (by decide))
              exact ⟨gt, e, fun h6 => r (by rw [upd_other (by decide)] at h6; exact h6), hgt⟩), (kp f5), (fun h => f6 (upd_ne h (by decide))), (fun h => by
              obtain ⟨gt, kk, e, hkk, hgt, r⟩ := f7 (upd_ne h (by decide))
              exact ⟨gt, kk, e, hkk, hgt, fun h6 => r (by rw [upd_other (by decide)] at h6; exact h6)⟩), (fun h => f8 (upd_ne h (by decide))), (kp f9), (fun h => absurd hLS (by rw [upd_ne h (by decide)]; decide))⟩
          · obtain rfl := Option.some.inj ho
            have g3 := f3 (hd ⟨3, .data⟩ (by simp) rfl)
            subst g3
            have hLS : L 10 = false := by
              cases e : L 10
              · rfl
              · exact absurd ((f10 e).1 4 (by decide)) (by rw [hL]; decide)
            have S := I0 hLS
            refine wpOp_step rfl (fun K' hK => ?_)
            go_simp
            refine hK _ _ ?_
            exact ⟨_, _, _, _, _, _, _, _, _, _, rfl, (fun _ => by
              rw [upd_other (by decide)]
              exact S.up ((Below.refl ww.heap.size ww).alloc (Nat.le_refl _) _)), (kp f0), (kp f1), (kp f2), (kp f3), (fun _ => ⟨ww.heap.size, rfl, fun _ => Rw.new ww 3 #[.int .i64 (-1), .int .i64 ((q2 : Int) + 1)], by have := S.grown.size; have := S.old; omega⟩), (kp f5), (fun h => f6 (upd_ne h (by decide))), (fun h => by
              obtain ⟨gt, kk, e, hkk, hgt, r⟩ := f7 (upd_ne h (by decide))
              exact ⟨gt, kk, e, hkk, hgt, fun h6 => Rw.alloc (r (by rw [upd_other (by decide)] at h6; exact h6)) _⟩), (fun h => f8 (upd_ne h (by decide))), (kp f9), (fun h => absurd hLS (by rw [upd_ne h (by decide)]; decide))⟩
          · obtain rfl := Option.some.inj ho
            have hLS : L 10 = false := by
              cases e : L 10
              · rfl
              · exact absurd ((f10 e).1 5 (by decide)) (by rw [hL]; decide)
            have S := I0 hLS
            refine wpOp_step rfl (fun K' hK => ?_)
            go_simp
            refine hK _ _ ?_
            exact ⟨_, _, _, _, _, _, _, _, _, _, rfl, (fun _ => by
              rw [upd_other (by decide)]
              exact S), (kp f0), (kp f1), (kp f2), (kp f3), (fun h => by
              obtain ⟨gt, e, r, hgt⟩ := f4 (upd_ne h (by decide))
              exact ⟨gt, e, fun h6 => r (by rw [upd_other (by decide)] at h6; exact h6), hgt⟩), (fun _ => rfl), (fun h => f6 (upd_ne h (by decide))), (fun h => by
              obtain ⟨gt, kk, e, hkk, hgt, r⟩ := f7 (upd_ne h (by decide))
              exact ⟨gt, kk, e, hkk, hgt, fun h6 => r (by rw [upd_other (by decide)] at h6; exact h6)⟩), (fun h => f8 (upd_ne h (by decide))), (kp f9), (fun h => absurd hLS (by rw [upd_ne h (by decide)]; decide))⟩
          · obtain rfl := Option.some.inj ho
            have g5 := f5 (hd ⟨5, .data⟩ (by simp) rfl)
            subst g5
            have hLS : L 10 = false := by
              cases e : L 10
              · rfl
              · exact absurd ((f10 e).1 6 (by decide)) (by rw [hL]; decide)
            have S := I0 hLS
            rw [hL] at S
            rw [if_neg Bool.false_ne_true] at S
            refine wpOp_step rfl (fun K' hK => ?_)
            go_simp
            refine (pick_any gr (N + 703) 2 ww S.rd (by omega) (by omega)).mono ?_
            rintro e w' ⟨kk, rfl, ka, kb, hr7, gg⟩
            obtain ⟨kk, rfl⟩ := Int.eq_ofNat_of_zero_le ka
            refine hK _ _ ?_
            exact ⟨_, _, _, _, _, _, _, _, _, _, rfl, (fun _ => by
              rw [upd_self, if_pos rfl]
              exact S.pick hr7 gg), (kp f0), (kp f1), (kp f2), (kp f3), (fun h => by
              obtain ⟨gt, e, r, hgt⟩ := f4 (upd_ne h (by decide))
              exact ⟨gt, e, fun h6 => Rw.far (r (by rw [upd_other (by decide)] at h6; exact h6)) gg (fun e => by have := Option.some.inj e; omega), hgt⟩), (kp f5), (fun _ => ⟨kk, rfl, by omega⟩), (fun h => by
              obtain ⟨gt, kk, e, hkk, hgt, r⟩ := f7 (upd_ne h (by decide))
              exact ⟨gt, kk, e, hkk, hgt, fun h6 => Rw.far (r (by rw [upd_other (by decide)] at h6; exact h6)) gg (fun e => by have := Option.some.inj e; omega)⟩), (fun h => f8 (upd_ne h (by decide))), (kp f9), (fun h => absurd hLS (by rw [upd_ne h (by decide)]; decide))⟩
          · obtain rfl := Option.some.inj ho
            have g4 := f4 (hd ⟨4, .data⟩ (by simp) rfl)
            have g6 := f6 (hd ⟨6, .data⟩ (by simp) rfl)
            have hLS : L 10 = false := by
              cases e : L 10
              · rfl
              · exact absurd ((f10 e).1 7 (by decide)) (by rw [hL]; decide)
            have S := I0 hLS
            obtain ⟨gt, e4, r4, hgt⟩ := g4
            obtain ⟨kk, e6, hkk⟩ := g6
            subst e4
            subst e6
            have hkk2 : (kk : Int) < 2 := by omega
            refine wpOp_step rfl (fun K' hK => ?_)
            go_simp
            refine hK _ _ ?_
            exact ⟨_, _, _, _, _, _, _, _, _, _, rfl, (fun _ => by
              rw [upd_other (by decide)]
              exact S), (kp f0), (kp f1), (kp f2), (kp f3), (fun h => ⟨gt, rfl, fun h6 => r4 (by rw [upd_other (by decide)] at h6; exact h6), hgt⟩), (kp f5), (fun h => ⟨kk, rfl, hkk⟩), (fun _ => ⟨gt, kk, by simp, hkk, hgt, fun h6 => r4 (by rw [upd_other (by decide)] at h6; exact h6)⟩), (fun h => f8 (upd_ne h (by decide))), (kp f9), (fun h => absurd hLS (by rw [upd_ne h (by decide)]; decide))⟩
          · obtain rfl := Option.some.inj ho
            have g7 := f7 (hd ⟨7, .data⟩ (by simp) rfl)
            have hLS : L 10 = false := by
              cases e : L 10
              · rfl
              · exact absurd ((f10 e).1 8 (by decide)) (by rw [hL]; decide)
            have S := I0 hLS
            obtain ⟨gt, kk, e7, hkk, hgt, r7⟩ := g7
            subst e7
            have rt := r7 hLS
            obtain ⟨y, z8⟩ : ∃ y : Int, ww.cell? ⟨gt, kk, none⟩ = some (.int .i64 y) := by
              rw [rt.cell]
              obtain rfl | rfl : kk = 0 ∨ kk = 1 := by omega
              · exact ⟨_, rfl⟩
              · exact ⟨_, rfl⟩
            refine wpOp_step rfl (fun K' hK => ?_)
            go_simp
            refine hK _ _ ?_
            exact ⟨_, _, _, _, _, _, _, _, _, _, rfl, (fun _ => by
              rw [upd_other (by decide)]
              exact S), (kp f0), (kp f1), (kp f2), (kp f3), (fun h => by
              obtain ⟨gt, e, r, hgt⟩ := f4 (upd_ne h (by decide))
              exact ⟨gt, e, fun h6 => r (by rw [upd_other (by decide)] at h6; exact h6), hgt⟩), (kp f5), (fun h => f6 (upd_ne h (by decide))), (fun h => ⟨gt, kk, rfl, hkk, hgt, fun h6 => r7 (by rw [upd_other (by decide)] at h6; exact h6)⟩), (fun _ => ⟨y, rfl⟩), (kp f9), (fun h => absurd hLS (by rw [upd_ne h (by decide)]; decide))⟩
          · obtain rfl := Option.some.inj ho
            have hLS : L 10 = false := by
              cases e : L 10
              · rfl
              · exact absurd ((f10 e).1 9 (by decide)) (by rw [hL]; decide)
            have S := I0 hLS
            refine wpOp_step rfl (fun K' hK => ?_)
            go_simp
            refine hK _ _ ?_
            exact ⟨_, _, _, _, _, _, _, _, _, _, rfl, (fun _ => by
              rw [upd_other (by decide)]
              exact S), (kp f0), (kp f1), (kp f2), (kp f3), (fun h => by
              obtain ⟨gt, e, r, hgt⟩ := f4 (upd_ne h (by decide))
              exact ⟨gt, e, fun h6 => r (by rw [upd_other (by decide)] at h6; exact h6), hgt⟩), (kp f5), (fun h => f6 (upd_ne h (by decide))), (fun h => by
              obtain ⟨gt, kk, e, hkk, hgt, r⟩ := f7 (upd_ne h (by decide))
              exact ⟨gt, kk, e, hkk, hgt, fun h6 => r (by rw [upd_other (by decide)] at h6; exact h6)⟩), (fun h => f8 (upd_ne h (by decide))), (fun _ => rfl), (fun h => absurd hLS (by rw [upd_ne h (by decide)]; decide))⟩
          · obtain rfl := Option.some.inj ho
            have g8 := f8 (hd ⟨8, .data⟩ (by simp) rfl)
            have g9 := f9 (hd ⟨9, .data⟩ (by simp) rfl)
            subst g9
            have lq : Hid (∀ q, q < 10 → L q = true) := Lib.hid (by
              intro q hq
              obtain rfl | rfl | rfl | rfl | rfl | rfl | rfl | rfl | rfl | rfl : q = 0 ∨ q = 1 ∨ q = 2 ∨ q = 3 ∨ q = 4 ∨ q = 5 ∨ q = 6 ∨ q = 7 ∨ q = 8 ∨ q = 9 := by omega
              · exact hd ⟨0, .phase⟩ (by simp) rfl
              · exact hd ⟨1, .phase⟩ (by simp) rfl
              · exact hd ⟨2, .phase⟩ (by simp) rfl
              · exact hd ⟨3, .phase⟩ (by simp) rfl
              · exact hd ⟨4, .phase⟩ (by simp) rfl
              · exact hd ⟨5, .phase⟩ (by simp) rfl
              · exact hd ⟨6, .phase⟩ (by simp) rfl
              · exact hd ⟨7, .phase⟩ (by simp) rfl
              · exact hd ⟨8, .phase⟩ (by simp) rfl
              · exact hd ⟨9, .data⟩ (by simp) rfl)
            have S := I0 hL
            rw [lq.out 6 (by decide), if_pos rfl] at S
            obtain ⟨y, e8⟩ := g8
            subst e8
            have z3 : ww.cell? ⟨b, 3, none⟩ = some (.int .i64 i) := S.box.cell 3
            have zf : ww.frozen? ⟨b, 3, none⟩ = false := S.box.frozen 3
            refine wpOp_step rfl (fun K' hK => ?_)
            go_simp
            refine hK _ _ ?_
            exact ⟨_, _, _, _, _, _, _, _, _, _, rfl, (fun h => absurd h (by rw [upd_self]; decide)), (kp f0), (kp f1), (kp f2), (kp f3), (fun h => by
              obtain ⟨gt, e, r, hgt⟩ := f4 (upd_ne h (by decide))
              exact ⟨gt, e, fun h6 => absurd h6 (by rw [upd_self]; decide), hgt⟩), (kp f5), (fun h => f6 (upd_ne h (by decide))), (fun h => by
              obtain ⟨gt, kk, e, hkk, hgt, r⟩ := f7 (upd_ne h (by decide))
              exact ⟨gt, kk, e, hkk, hgt, fun h6 => absurd h6 (by rw [upd_self]; decide)⟩), (fun h => ⟨y, rfl⟩), (kp f9), (fun _ => ⟨fun q hq => upd_mono (lq.out q hq), y, S.at_ y⟩)⟩
        case hdone =>
          rintro L ac ww hall ⟨t48, t49, t50, t51, t52, t53, t54, t55, t56, t57, rfl, I0, f0, f1, f2, f3, f4, f5, f6, f7, f8, f9, f10⟩
          have e0 := f0 (hall 0 (by decide))
          have e1 := f1 (hall 1 (by decide))
          have e2 := f2 (hall 2 (by decide))
          have e3 := f3 (hall 3 (by decide))
          have e4 := f4 (hall 4 (by decide))
          have e5 := f5 (hall 5 (by decide))
          have e6 := f6 (hall 6 (by decide))
          have e7 := f7 (hall 7 (by decide))
          have e8 := f8 (hall 8 (by decide))
          have e9 := f9 (hall 9 (by decide))
          have e10 := f10 (hall 10 (by decide))
          clear f0 f1 f2 f3 f4 f5 f6 f7 f8 f9 f10
          obtain ⟨-, y, S8⟩ := e10
          clear I0 e0 e1 e2 e3 e4 e5 e6 e7 e8 e9 hall S6
          have b0 : ww.cell? ⟨b, 0, none⟩ = some (.slice A2 n2 c2) := S8.box.cell 0
          have b1 : ww.cell? ⟨b, 1, none⟩ = some (.slice R2 m2 d2) := S8.box.cell 1
          have b2 : ww.cell? ⟨b, 2, none⟩ = some (.slice D2 q2 e2) := S8.box.cell 2
          have b3 : ww.cell? ⟨b, 3, none⟩ = some (.int .i64 y) := S8.box.cell 3
          have fr0 : ww.frozen? ⟨w.heap.size, 0, none⟩ = false := S8.res.frozen 0
          have fr1 : ww.frozen? ⟨w.heap.size, 1, none⟩ = false := S8.res.frozen 1
          have fr2 : ww.frozen? ⟨w.heap.size, 2, none⟩ = false := S8.res.frozen 2
          have fr3 : ww.frozen? ⟨w.heap.size, 3, none⟩ = false := S8.res.frozen 3
          have rc0 : ww.cell? ⟨w.heap.size, 0, none⟩ = some (.slice none 0 0) := S8.res.cell 0
          have rc1 : ww.cell? ⟨w.heap.size, 1, none⟩ = some (.slice none 0 0) := S8.res.cell 1
          have rc2 : ww.cell? ⟨w.heap.size, 2, none⟩ = some (.slice none 0 0) := S8.res.cell 2
          have rc3 : ww.cell? ⟨w.heap.size, 3, none⟩ = some (.int .i64 0) := S8.res.cell 3
          have rs0 : ((((ww.setCell ⟨w.heap.size, 0, none⟩ (.slice A2 n2 c2)).setCell ⟨w.heap.size, 1, none⟩ (.slice R2 m2 d2)).setCell ⟨w.heap.size, 2, none⟩ (.slice D2 q2 e2)).setCell ⟨w.heap.size, 3, none⟩ (.int .i64 y)).cell? ⟨w.heap.size, 0, none⟩ = some (.slice A2 n2 c2) := ((((S8.res.put 0 (.slice A2 n2 c2)).put 1 (.slice R2 m2 d2)).put 2 (.slice D2 q2 e2)).put 3 (.int .i64 y)).cell 0
          have rs1 : ((((ww.setCell ⟨w.heap.size, 0, none⟩ (.slice A2 n2 c2)).setCell ⟨w.heap.size, 1, none⟩ (.slice R2 m2 d2)).setCell ⟨w.heap.size, 2, none⟩ (.slice D2 q2 e2)).setCell ⟨w.heap.size, 3, none⟩ (.int .i64 y)).cell? ⟨w.heap.size, 1, none⟩ = some (.slice R2 m2 d2) := ((((S8.res.put 0 (.slice A2 n2 c2)).put 1 (.slice R2 m2 d2)).put 2 (.slice D2 q2 e2)).put 3 (.int .i64 y)).cell 1
          have rs2 : ((((ww.setCell ⟨w.heap.size, 0, none⟩ (.slice A2 n2 c2)).setCell ⟨w.heap.size, 1, none⟩ (.slice R2 m2 d2)).setCell ⟨w.heap.size, 2, none⟩ (.slice D2 q2 e2)).setCell ⟨w.heap.size, 3, none⟩ (.int .i64 y)).cell? ⟨w.heap.size, 2, none⟩ = some (.slice D2 q2 e2) := ((((S8.res.put 0 (.slice A2 n2 c2)).put 1 (.slice R2 m2 d2)).put 2 (.slice D2 q2 e2)).put 3 (.int .i64 y)).cell 2
          have rs3 : ((((ww.setCell ⟨w.heap.size, 0, none⟩ (.slice A2 n2 c2)).setCell ⟨w.heap.size, 1, none⟩ (.slice R2 m2 d2)).setCell ⟨w.heap.size, 2, none⟩ (.slice D2 q2 e2)).setCell ⟨w.heap.size, 3, none⟩ (.int .i64 y)).cell? ⟨w.heap.size, 3, none⟩ = some (.int .i64 y) := ((((S8.res.put 0 (.slice A2 n2 c2)).put 1 (.slice R2 m2 d2)).put 2 (.slice D2 q2 e2)).put 3 (.int .i64 y)).cell 3
          have DD := Lib.hid (S8.out (N' := N) (by omega) HSM.out (by rw [HQ2.out]; omega))
          clear S8
          go_wp2_with fail
          exact bodyPost_ret (v := .agg #[.slice A2 n2 c2, .slice R2 m2 d2, .slice D2 q2 e2, .int .i64 y]) (by simp [results, Try.results55, go_sem, *]) rfl DD.out
      case inr.inl =>
        obtain ⟨rvs, o⟩ := S6.own
        have ow := World.ownsRow.alloc o.mks (.cells #[.bool false] 4)
        have rr : OS (w6.alloc (.cells #[.bool false] 4)) (w6.alloc (.cells #[.bool false] 4)).heap.size (some ⟨w6.heap.size, 0, none⟩) 1 [false] := (own_oneO w6 false 0 (Nat.zero_le _)).reads
        have hyn : l.ms.length + 1 ≤ 1099511627776 := by rw [HQ2.out]; omega
        have S7 := S6.up ((Below.refl w6.heap.size w6).alloc (Nat.le_refl _) (.cells #[.bool false] 4))
        have hbs : w.heap.size + 1 ≤ (w6.alloc (.cells #[.bool false] 4)).heap.size := by have := S6.grown.size; simp; omega
        have x2 : w6.cell? ⟨b, 2, none⟩ = some (.slice D2 q2 e2) := S6.box.cell 2
        clear o S6
        go_upto_region 15 with (at_builtin; refine wpList_appendO rfl (.tmp 61) (.tmp 62) rfl (w.heap.size + 1) _ l.ms rfl ow (some ⟨w6.heap.size, 0, none⟩) 1 1 _ [false] rfl rr hyn hbs ?_; intro v5 w7 o5 g5 s5; have f2 : w7.frozen? ⟨b, 2, none⟩ = false := (S7.boxfar g5).frozen 2; have y2 : w7.cell? ⟨b, 2, none⟩ = some (.slice D2 q2 e2) := (S7.boxfar g5).cell 2; have S8 := S7.app o5 g5 s5; obtain ⟨D5, e5, rfl, -⟩ := o5.form; obtain ⟨q5, hq5⟩ : ∃ q5, (l.ms ++ [false]).length = q5 := ⟨_, rfl⟩; rw [hq5] at S8 ⊢; have HL8 := Lib.hid (show (l.ms ++ [false]).length ≤ 41 by rw [List.length_append, HQ2.out, List.length_singleton]; omega); clear hq5 S7 ow rr g5 s5 o5 x2)
        generalize w7.setCell ⟨b, 2, none⟩ (.slice D5 q5 e5) = w8 at S8 ⊢
        have b0 : w8.cell? ⟨b, 0, none⟩ = some (.slice A2 n2 c2) := S8.box.cell 0
        have b1 : w8.cell? ⟨b, 1, none⟩ = some (.slice R2 m2 d2) := S8.box.cell 1
        have b2 : w8.cell? ⟨b, 2, none⟩ = some (.slice D5 q5 e5) := S8.box.cell 2
        have b3 : w8.cell? ⟨b, 3, none⟩ = some (.int .i64 i) := S8.box.cell 3
        have fr0 : w8.frozen? ⟨w.heap.size, 0, none⟩ = false := S8.res.frozen 0
        have fr1 : w8.frozen? ⟨w.heap.size, 1, none⟩ = false := S8.res.frozen 1
        have fr2 : w8.frozen? ⟨w.heap.size, 2, none⟩ = false := S8.res.frozen 2
        have fr3 : w8.frozen? ⟨w.heap.size, 3, none⟩ = false := S8.res.frozen 3
        have rc0 : w8.cell? ⟨w.heap.size, 0, none⟩ = some (.slice none 0 0) := S8.res.cell 0
        have rc1 : w8.cell? ⟨w.heap.size, 1, none⟩ = some (.slice none 0 0) := S8.res.cell 1
        have rc2 : w8.cell? ⟨w.heap.size, 2, none⟩ = some (.slice none 0 0) := S8.res.cell 2
        have rc3 : w8.cell? ⟨w.heap.size, 3, none⟩ = some (.int .i64 0) := S8.res.cell 3
        have rs0 : ((((w8.setCell ⟨w.heap.size, 0, none⟩ (.slice A2 n2 c2)).setCell ⟨w.heap.size, 1, none⟩ (.slice R2 m2 d2)).setCell ⟨w.heap.size, 2, none⟩ (.slice D5 q5 e5)).setCell ⟨w.heap.size, 3, none⟩ (.int .i64 i)).cell? ⟨w.heap.size, 0, none⟩ = some (.slice A2 n2 c2) := ((((S8.res.put 0 (.slice A2 n2 c2)).put 1 (.slice R2 m2 d2)).put 2 (.slice D5 q5 e5)).put 3 (.int .i64 i)).cell 0
        have rs1 : ((((w8.setCell ⟨w.heap.size, 0, none⟩ (.slice A2 n2 c2)).setCell ⟨w.heap.size, 1, none⟩ (.slice R2 m2 d2)).setCell ⟨w.heap.size, 2, none⟩ (.slice D5 q5 e5)).setCell ⟨w.heap.size, 3, none⟩ (.int .i64 i)).cell? ⟨w.heap.size, 1, none⟩ = some (.slice R2 m2 d2) := ((((S8.res.put 0 (.slice A2 n2 c2)).put 1 (.slice R2 m2 d2)).put 2 (.slice D5 q5 e5)).put 3 (.int .i64 i)).cell 1
        have rs2 : ((((w8.setCell ⟨w.heap.size, 0, none⟩ (.slice A2 n2 c2)).setCell ⟨w.heap.size, 1, none⟩ (.slice R2 m2 d2)).setCell ⟨w.heap.size, 2, none⟩ (.slice D5 q5 e5)).setCell ⟨w.heap.size, 3, none⟩ (.int .i64 i)).cell? ⟨w.heap.size, 2, none⟩ = some (.slice D5 q5 e5) := ((((S8.res.put 0 (.slice A2 n2 c2)).put 1 (.slice R2 m2 d2)).put 2 (.slice D5 q5 e5)).put 3 (.int .i64 i)).cell 2
        have rs3 : ((((w8.setCell ⟨w.heap.size, 0, none⟩ (.slice A2 n2 c2)).setCell ⟨w.heap.size, 1, none⟩ (.slice R2 m2 d2)).setCell ⟨w.heap.size, 2, none⟩ (.slice D5 q5 e5)).setCell ⟨w.heap.size, 3, none⟩ (.int .i64 i)).cell? ⟨w.heap.size, 3, none⟩ = some (.int .i64 i) := ((((S8.res.put 0 (.slice A2 n2 c2)).put 1 (.slice R2 m2 d2)).put 2 (.slice D5 q5 e5)).put 3 (.int .i64 i)).cell 3
        have DD := Lib.hid (S8.out (N' := N) (by omega) HSM.out HL8.out)
        clear S8
        go_wp2_with fail
        exact bodyPost_ret (v := .agg #[.slice A2 n2 c2, .slice R2 m2 d2, .slice D5 q5 e5, .int .i64 i]) (by simp [results, Try.results55, go_sem, *]) rfl DD.out
      obtain ⟨rvs, o⟩ := S6.own
      have x2 : w6.cell? ⟨b, 2, none⟩ = some (.slice D2 q2 e2) := S6.box.cell 2
      by_cases hq0 : 0 < q2
      · have hq0' : (0 : Int) < q2 := by omega
        obtain ⟨A8, c8, e3, fD⟩ := o.mks.form
        rw [HQ2.out] at e3 fD
        obtain ⟨gm, rfl, -⟩ := fD hq0
        injection e3 with e3a e3b e3c
        subst e3a e3c
        clear e3b
        clear o fD
        go_wp2_with fail
        refine (pick_any gr (N + 703) q2 _ S6.rd (by omega) (by omega)).mono ?_
        rintro e w7 ⟨kk, rfl, ka, kb, hr7, g7⟩
        have S7 := S6.pick hr7 g7
        obtain ⟨kk, rfl⟩ := Int.eq_ofNat_of_zero_le ka
        have hkk : kk < q2 := by omega
        have hkk' : (kk : Int) < q2 := by omega
        clear S6 hr7 g7 ka kb x2
        obtain ⟨rvs, o⟩ := S7.own
        have x2 : w7.cell? ⟨b, 2, none⟩ = some (.slice (some ⟨gm, 0, none⟩) q2 e2) := S7.box.cell 2
        obtain ⟨_, _, mk, e9, -, hmk, d8⟩ := o.mks.reads.at_ (k := kk) hkk
        injection e9 with e9
        injection e9 with e9 e8
        subst e9 e8
        rw [Nat.zero_add] at d8
        have fm : w7.frozen? ⟨gm, kk, none⟩ = false := o.mks.frozen HQ2.out kk
        have S8 := (S7.flip (k := kk) HQ2.out (!mk)).up (below_drewN (Below.refl _ _) 1)
        have HL8 := Lib.hid (show (l.ms.set kk (!mk)).length ≤ 41 by rw [List.length_set, HQ2.out]; omega)
        clear o hmk S7
        go_wp2_with fail
        go_region
        have S9 : LzSt w (w7.setCell ⟨gm, kk, none⟩ (.bool (!mk))).drew gr _ b _ _ _ _ _ _ := S8
        clear S8 x2 d8 fm
        generalize (w7.setCell ⟨gm, kk, none⟩ (.bool (!mk))).drew = w8 at S9 ⊢
        have b0 : w8.cell? ⟨b, 0, none⟩ = some (.slice A2 n2 c2) := S9.box.cell 0
        have b1 : w8.cell? ⟨b, 1, none⟩ = some (.slice R2 m2 d2) := S9.box.cell 1
        have b2 : w8.cell? ⟨b, 2, none⟩ = some (.slice (some ⟨gm, 0, none⟩) q2 e2) := S9.box.cell 2
        have b3 : w8.cell? ⟨b, 3, none⟩ = some (.int .i64 i) := S9.box.cell 3
        have fr0 : w8.frozen? ⟨w.heap.size, 0, none⟩ = false := S9.res.frozen 0
        have fr1 : w8.frozen? ⟨w.heap.size, 1, none⟩ = false := S9.res.frozen 1
        have fr2 : w8.frozen? ⟨w.heap.size, 2, none⟩ = false := S9.res.frozen 2
        have fr3 : w8.frozen? ⟨w.heap.size, 3, none⟩ = false := S9.res.frozen 3
        have rc0 : w8.cell? ⟨w.heap.size, 0, none⟩ = some (.slice none 0 0) := S9.res.cell 0
        have rc1 : w8.cell? ⟨w.heap.size, 1, none⟩ = some (.slice none 0 0) := S9.res.cell 1
        have rc2 : w8.cell? ⟨w.heap.size, 2, none⟩ = some (.slice none 0 0) := S9.res.cell 2
        have rc3 : w8.cell? ⟨w.heap.size, 3, none⟩ = some (.int .i64 0) := S9.res.cell 3
        have rs0 : ((((w8.setCell ⟨w.heap.size, 0, none⟩ (.slice A2 n2 c2)).setCell ⟨w.heap.size, 1, none⟩ (.slice R2 m2 d2)).setCell ⟨w.heap.size, 2, none⟩ (.slice (some ⟨gm, 0, none⟩) q2 e2)).setCell ⟨w.heap.size, 3, none⟩ (.int .i64 i)).cell? ⟨w.heap.size, 0, none⟩ = some (.slice A2 n2 c2) := ((((S9.res.put 0 (.slice A2 n2 c2)).put 1 (.slice R2 m2 d2)).put 2 (.slice (some ⟨gm, 0, none⟩) q2 e2)).put 3 (.int .i64 i)).cell 0
        have rs1 : ((((w8.setCell ⟨w.heap.size, 0, none⟩ (.slice A2 n2 c2)).setCell ⟨w.heap.size, 1, none⟩ (.slice R2 m2 d2)).setCell ⟨w.heap.size, 2, none⟩ (.slice (some ⟨gm, 0, none⟩) q2 e2)).setCell ⟨w.heap.size, 3, none⟩ (.int .i64 i)).cell? ⟨w.heap.size, 1, none⟩ = some (.slice R2 m2 d2) := ((((S9.res.put 0 (.slice A2 n2 c2)).put 1 (.slice R2 m2 d2)).put 2 (.slice (some ⟨gm, 0, none⟩) q2 e2)).put 3 (.int .i64 i)).cell 1
        have rs2 : ((((w8.setCell ⟨w.heap.size, 0, none⟩ (.slice A2 n2 c2)).setCell ⟨w.heap.size, 1, none⟩ (.slice R2 m2 d2)).setCell ⟨w.heap.size, 2, none⟩ (.slice (some ⟨gm, 0, none⟩) q2 e2)).setCell ⟨w.heap.size, 3, none⟩ (.int .i64 i)).cell? ⟨w.heap.size, 2, none⟩ = some (.slice (some ⟨gm, 0, none⟩) q2 e2) := ((((S9.res.put 0 (.slice A2 n2 c2)).put 1 (.slice R2 m2 d2)).put 2 (.slice (some ⟨gm, 0, none⟩) q2 e2)).put 3 (.int .i64 i)).cell 2
        have rs3 : ((((w8.setCell ⟨w.heap.size, 0, none⟩ (.slice A2 n2 c2)).setCell ⟨w.heap.size, 1, none⟩ (.slice R2 m2 d2)).setCell ⟨w.heap.size, 2, none⟩ (.slice (some ⟨gm, 0, none⟩) q2 e2)).setCell ⟨w.heap.size, 3, none⟩ (.int .i64 i)).cell? ⟨w.heap.size, 3, none⟩ = some (.int .i64 i) := ((((S9.res.put 0 (.slice A2 n2 c2)).put 1 (.slice R2 m2 d2)).put 2 (.slice (some ⟨gm, 0, none⟩) q2 e2)).put 3 (.int .i64 i)).cell 3
        have DD := Lib.hid (S9.out (N' := N) (by omega) HSM.out HL8.out)
        clear S9
        go_wp2_with fail
        exact bodyPost_ret (v := .agg #[.slice A2 n2 c2, .slice R2 m2 d2, .slice (some ⟨gm, 0, none⟩) q2 e2, .int .i64 i]) (by simp [results, Try.results55, go_sem, *]) rfl DD.out
      · have hq0' : ¬ (0 : Int) < q2 := by omega
        have HL8 := Lib.hid (show l.ms.length ≤ 41 by rw [HQ2.out]; omega)
        clear o
        have b0 : w6.cell? ⟨b, 0, none⟩ = some (.slice A2 n2 c2) := S6.box.cell 0
        have b1 : w6.cell? ⟨b, 1, none⟩ = some (.slice R2 m2 d2) := S6.box.cell 1
        have b2 : w6.cell? ⟨b, 2, none⟩ = some (.slice D2 q2 e2) := S6.box.cell 2
        have b3 : w6.cell? ⟨b, 3, none⟩ = some (.int .i64 i) := S6.box.cell 3
        have fr0 : w6.frozen? ⟨w.heap.size, 0, none⟩ = false := S6.res.frozen 0
        have fr1 : w6.frozen? ⟨w.heap.size, 1, none⟩ = false := S6.res.frozen 1
        have fr2 : w6.frozen? ⟨w.heap.size, 2, none⟩ = false := S6.res.frozen 2
        have fr3 : w6.frozen? ⟨w.heap.size, 3, none⟩ = false := S6.res.frozen 3
        have rc0 : w6.cell? ⟨w.heap.size, 0, none⟩ = some (.slice none 0 0) := S6.res.cell 0
        have rc1 : w6.cell? ⟨w.heap.size, 1, none⟩ = some (.slice none 0 0) := S6.res.cell 1
        have rc2 : w6.cell? ⟨w.heap.size, 2, none⟩ = some (.slice none 0 0) := S6.res.cell 2
        have rc3 : w6.cell? ⟨w.heap.size, 3, none⟩ = some (.int .i64 0) := S6.res.cell 3
        have rs0 : ((((w6.setCell ⟨w.heap.size, 0, none⟩ (.slice A2 n2 c2)).setCell ⟨w.heap.size, 1, none⟩ (.slice R2 m2 d2)).setCell ⟨w.heap.size, 2, none⟩ (.slice D2 q2 e2)).setCell ⟨w.heap.size, 3, none⟩ (.int .i64 i)).cell? ⟨w.heap.size, 0, none⟩ = some (.slice A2 n2 c2) := ((((S6.res.put 0 (.slice A2 n2 c2)).put 1 (.slice R2 m2 d2)).put 2 (.slice D2 q2 e2)).put 3 (.int .i64 i)).cell 0
        have rs1 : ((((w6.setCell ⟨w.heap.size, 0, none⟩ (.slice A2 n2 c2)).setCell ⟨w.heap.size, 1, none⟩ (.slice R2 m2 d2)).setCell ⟨w.heap.size, 2, none⟩ (.slice D2 q2 e2)).setCell ⟨w.heap.size, 3, none⟩ (.int .i64 i)).cell? ⟨w.heap.size, 1, none⟩ = some (.slice R2 m2 d2) := ((((S6.res.put 0 (.slice A2 n2 c2)).put 1 (.slice R2 m2 d2)).put 2 (.slice D2 q2 e2)).put 3 (.int .i64 i)).cell 1
        have rs2 : ((((w6.setCell ⟨w.heap.size, 0, none⟩ (.slice A2 n2 c2)).setCell ⟨w.heap.size, 1, none⟩ (.slice R2 m2 d2)).setCell ⟨w.heap.size, 2, none⟩ (.slice D2 q2 e2)).setCell ⟨w.heap.size, 3, none⟩ (.int .i64 i)).cell? ⟨w.heap.size, 2, none⟩ = some (.slice D2 q2 e2) := ((((S6.res.put 0 (.slice A2 n2 c2)).put 1 (.slice R2 m2 d2)).put 2 (.slice D2 q2 e2)).put 3 (.int .i64 i)).cell 2
        have rs3 : ((((w6.setCell ⟨w.heap.size, 0, none⟩ (.slice A2 n2 c2)).setCell ⟨w.heap.size, 1, none⟩ (.slice R2 m2 d2)).setCell ⟨w.heap.size, 2, none⟩ (.slice D2 q2 e2)).setCell ⟨w.heap.size, 3, none⟩ (.int .i64 i)).cell? ⟨w.heap.size, 3, none⟩ = some (.int .i64 i) := ((((S6.res.put 0 (.slice A2 n2 c2)).put 1 (.slice R2 m2 d2)).put 2 (.slice D2 q2 e2)).put 3 (.int .i64 i)).cell 3
        have DD := Lib.hid (S6.out (N' := N) (by omega) HSM.out HL8.out)
        clear S6
        go_wp2_with fail
        exact bodyPost_ret (v := .agg #[.slice A2 n2 c2, .slice R2 m2 d2, .slice D2 q2 e2, .int .i64 i]) (by simp [results, Try.results55, go_sem, *]) rfl DD.out

/-- a lazy heap of the call's own has been drawn -/
def DrawnLz (w : World) (e : Ending) (w' : World) : Prop :=
  ∃ (A : Option Addr) (n c : Nat) (R : Option Addr) (m d : Nat) (D : Option Addr) (q ce : Nat) (h : Hp) (ms : List Bool) (i : Int), e = .returned (lzV A n c R m d D q ce i) ∧ n ≤ c ∧ m ≤ d ∧ OwnLz w' w.heap.size (.slice A n c) (.slice R m d) (.slice D q ce) h ms ∧ SmallH h ∧ ms.length ≤ 41 ∧ Below w.heap.size w w'

set_option maxHeartbeats 1000000 in
theorem drawLazyValid_any (A : Option Addr) (n c : Nat) (w : World) (h : Bytes w w.heap.size A n) (hc : n ≤ c) (hn : n ≤ 9223372036854775807) :
    Calls Try.prog 20 #[.slice A n c] w (DrawnLz w) := by
  have b0 : Below w.heap.size w (w.alloc (.cells #[.slice none 0 0, .slice none 0 0, .slice none 0 0, .int .i64 0] 30)) := (Below.refl _ _).alloc (Nat.le_refl _) _
  have h0 := (h.keep fun p hp => b0.cell hp).more b0.size
  have r0 := Rw.new w 30 #[.slice none 0 0, .slice none 0 0, .slice none 0 0, .int .i64 0]
  go_enter Try.func20, Try.ntmps20
  go_wp2_with fail
  refine (open_any _ _ _ _ h0 hc hn).mono ?_
  rintro e w1 ⟨rfl, hr1, b1⟩
  have r1 := r0.keep b1 r0.lt
  have hz := r0.lt
  have bb1 := b0.trans (b1.mono b0.size)
  have hs0 := b0.size
  have hs1 := b1.size
  generalize w.alloc (.cells #[.slice none 0 0, .slice none 0 0, .slice none 0 0, .int .i64 0] 30) = w0 at b0 h0 r0 hr1 b1 r1 hz bb1 hs0 hs1 ⊢
  go_wp2_with fail
  refine (l20Lazy_any _ _ 2 _ hr1 (by omega) (by omega) (by omega)).mono ?_
  rintro e w2 ⟨vc, vr, vm, hh, ms, i, rfl, ho, hsm, hml, hr2, g2⟩
  have r2 := r1.far g2 (fun e => by injection e with e; omega)
  have bb2 : Below w.heap.size w w2 := bb1.grown g2 bb1.size (fun k hk => by injection hk; omega)
  have D9 := Lib.hid (OwnLz.out (w := w) (g := w.heap.size) i ho (by omega) bb2 (Nat.le_refl _))
  have caps := Lib.hid ho
  obtain ⟨rvs, o⟩ := ho
  obtain ⟨A2, c2, R2, d2, D2, e2, rfl, rfl, rfl, hc2, hd2⟩ := o.slices
  obtain ⟨n2, hn2⟩ : ∃ n2, hh.cs.length = n2 := ⟨_, rfl⟩
  obtain ⟨m2, hm2⟩ : ∃ m2, hh.rt.length = m2 := ⟨_, rfl⟩
  obtain ⟨q2, hq2⟩ : ∃ q2, ms.length = q2 := ⟨_, rfl⟩
  have HC := Lib.hid (show n2 ≤ c2 ∧ m2 ≤ d2 by rw [← hn2, ← hm2]; exact ⟨hc2, hd2⟩)
  have HSM := Lib.hid hsm
  have HML := Lib.hid hml
  rw [hn2, hm2, hq2] at D9
  rw [hn2, hm2, hq2]
  have x0 : w2.cell? ⟨w.heap.size, 0, none⟩ = some (.slice none 0 0) := r2.cell 0
  have f0 : w2.frozen? ⟨w.heap.size, 0, none⟩ = false := r2.frozen 0
  have x1 : w2.cell? ⟨w.heap.size, 1, none⟩ = some (.slice none 0 0) := r2.cell 1
  have f1 : w2.frozen? ⟨w.heap.size, 1, none⟩ = false := r2.frozen 1
  have x2 : w2.cell? ⟨w.heap.size, 2, none⟩ = some (.slice none 0 0) := r2.cell 2
  have f2 : w2.frozen? ⟨w.heap.size, 2, none⟩ = false := r2.frozen 2
  have x3 : w2.cell? ⟨w.heap.size, 3, none⟩ = some (.int .i64 0) := r2.cell 3
  have f3 : w2.frozen? ⟨w.heap.size, 3, none⟩ = false := r2.frozen 3
  have y0 : ((((w2.setCell ⟨w.heap.size, 0, none⟩ (.slice A2 n2 c2)).setCell ⟨w.heap.size, 1, none⟩ (.slice R2 m2 d2)).setCell ⟨w.heap.size, 2, none⟩ (.slice D2 q2 e2)).setCell ⟨w.heap.size, 3, none⟩ (.int .i64 i)).cell? ⟨w.heap.size, 0, none⟩ = some (.slice A2 n2 c2) := ((((r2.put 0 (.slice A2 n2 c2)).put 1 (.slice R2 m2 d2)).put 2 (.slice D2 q2 e2)).put 3 (.int .i64 i)).cell 0
  have y1 : ((((w2.setCell ⟨w.heap.size, 0, none⟩ (.slice A2 n2 c2)).setCell ⟨w.heap.size, 1, none⟩ (.slice R2 m2 d2)).setCell ⟨w.heap.size, 2, none⟩ (.slice D2 q2 e2)).setCell ⟨w.heap.size, 3, none⟩ (.int .i64 i)).cell? ⟨w.heap.size, 1, none⟩ = some (.slice R2 m2 d2) := ((((r2.put 0 (.slice A2 n2 c2)).put 1 (.slice R2 m2 d2)).put 2 (.slice D2 q2 e2)).put 3 (.int .i64 i)).cell 1
  have y2 : ((((w2.setCell ⟨w.heap.size, 0, none⟩ (.slice A2 n2 c2)).setCell ⟨w.heap.size, 1, none⟩ (.slice R2 m2 d2)).setCell ⟨w.heap.size, 2, none⟩ (.slice D2 q2 e2)).setCell ⟨w.heap.size, 3, none⟩ (.int .i64 i)).cell? ⟨w.heap.size, 2, none⟩ = some (.slice D2 q2 e2) := ((((r2.put 0 (.slice A2 n2 c2)).put 1 (.slice R2 m2 d2)).put 2 (.slice D2 q2 e2)).put 3 (.int .i64 i)).cell 2
  have y3 : ((((w2.setCell ⟨w.heap.size, 0, none⟩ (.slice A2 n2 c2)).setCell ⟨w.heap.size, 1, none⟩ (.slice R2 m2 d2)).setCell ⟨w.heap.size, 2, none⟩ (.slice D2 q2 e2)).setCell ⟨w.heap.size, 3, none⟩ (.int .i64 i)).cell? ⟨w.heap.size, 3, none⟩ = some (.int .i64 i) := ((((r2.put 0 (.slice A2 n2 c2)).put 1 (.slice R2 m2 d2)).put 2 (.slice D2 q2 e2)).put 3 (.int .i64 i)).cell 3
  clear hn2 hm2 hq2 hc2 hd2 hsm hml o caps g2 hr2 r2 r1 r0 bb1 bb2 b0 b1 h0 hr1
  go_wp2_with fail
  exact bodyPost_ret (v := .agg #[.slice A2 n2 c2, .slice R2 m2 d2, .slice D2 q2 e2, .int .i64 i]) (by simp [results, Try.results20, go_sem, *]) rfl ⟨A2, n2, c2, R2, m2, d2, D2, q2, e2, hh, ms, i, rfl, HC.out.1, HC.out.2, D9.out.1, HSM.out, HML.out, D9.out.2⟩

set_option maxHeartbeats 1000000 in
theorem drawLazyTake_any (A : Option Addr) (n c : Nat) (w : World) (h : Bytes w w.heap.size A n) (hc : n ≤ c) (hn : n ≤ 9223372036854775807) :
    Calls Try.prog 23 #[.slice A n c] w (DrawnLz w) := by
  have b0 : Below w.heap.size w (w.alloc (.cells #[.slice none 0 0, .slice none 0 0, .slice none 0 0, .int .i64 0] 30)) := (Below.refl _ _).alloc (Nat.le_refl _) _
  have h0 := (h.keep fun p hp => b0.cell hp).more b0.size
  have r0 := Rw.new w 30 #[.slice none 0 0, .slice none 0 0, .slice none 0 0, .int .i64 0]
  go_enter Try.func23, Try.ntmps23
  go_wp2_with fail
  refine (open_any _ _ _ _ h0 hc hn).mono ?_
  rintro e w1 ⟨rfl, hr1, b1⟩
  have r1 := r0.keep b1 r0.lt
  have hz := r0.lt
  have bb1 := b0.trans (b1.mono b0.size)
  have hs0 := b0.size
  have hs1 := b1.size
  generalize w.alloc (.cells #[.slice none 0 0, .slice none 0 0, .slice none 0 0, .int .i64 0] 30) = w0 at b0 h0 r0 hr1 b1 r1 hz bb1 hs0 hs1 ⊢
  go_wp2_with fail
  refine (l20Lazy_any _ _ 9 _ hr1 (by omega) (by omega) (by omega)).mono ?_
  rintro e w2 ⟨vc, vr, vm, hh, ms, i, rfl, ho, hsm, hml, hr2, g2⟩
  have r2 := r1.far g2 (fun e => by injection e with e; omega)
  have bb2 : Below w.heap.size w w2 := bb1.grown g2 bb1.size (fun k hk => by injection hk; omega)
  have D9 := Lib.hid (OwnLz.out (w := w) (g := w.heap.size) i ho (by omega) bb2 (Nat.le_refl _))
  have caps := Lib.hid ho
  obtain ⟨rvs, o⟩ := ho
  obtain ⟨A2, c2, R2, d2, D2, e2, rfl, rfl, rfl, hc2, hd2⟩ := o.slices
  obtain ⟨n2, hn2⟩ : ∃ n2, hh.cs.length = n2 := ⟨_, rfl⟩
  obtain ⟨m2, hm2⟩ : ∃ m2, hh.rt.length = m2 := ⟨_, rfl⟩
  obtain ⟨q2, hq2⟩ : ∃ q2, ms.length = q2 := ⟨_, rfl⟩
  have HC := Lib.hid (show n2 ≤ c2 ∧ m2 ≤ d2 by rw [← hn2, ← hm2]; exact ⟨hc2, hd2⟩)
  have HSM := Lib.hid hsm
  have HML := Lib.hid hml
  rw [hn2, hm2, hq2] at D9
  rw [hn2, hm2, hq2]
  have x0 : w2.cell? ⟨w.heap.size, 0, none⟩ = some (.slice none 0 0) := r2.cell 0
  have f0 : w2.frozen? ⟨w.heap.size, 0, none⟩ = false := r2.frozen 0
  have x1 : w2.cell? ⟨w.heap.size, 1, none⟩ = some (.slice none 0 0) := r2.cell 1
  have f1 : w2.frozen? ⟨w.heap.size, 1, none⟩ = false := r2.frozen 1
  have x2 : w2.cell? ⟨w.heap.size, 2, none⟩ = some (.slice none 0 0) := r2.cell 2
  have f2 : w2.frozen? ⟨w.heap.size, 2, none⟩ = false := r2.frozen 2
  have x3 : w2.cell? ⟨w.heap.size, 3, none⟩ = some (.int .i64 0) := r2.cell 3
  have f3 : w2.frozen? ⟨w.heap.size, 3, none⟩ = false := r2.frozen 3
  have y0 : ((((w2.setCell ⟨w.heap.size, 0, none⟩ (.slice A2 n2 c2)).setCell ⟨w.heap.size, 1, none⟩ (.slice R2 m2 d2)).setCell ⟨w.heap.size, 2, none⟩ (.slice D2 q2 e2)).setCell ⟨w.heap.size, 3, none⟩ (.int .i64 i)).cell? ⟨w.heap.size, 0, none⟩ = some (.slice A2 n2 c2) := ((((r2.put 0 (.slice A2 n2 c2)).put 1 (.slice R2 m2 d2)).put 2 (.slice D2 q2 e2)).put 3 (.int .i64 i)).cell 0
  have y1 : ((((w2.setCell ⟨w.heap.size, 0, none⟩ (.slice A2 n2 c2)).setCell ⟨w.heap.size, 1, none⟩ (.slice R2 m2 d2)).setCell ⟨w.heap.size, 2, none⟩ (.slice D2 q2 e2)).setCell ⟨w.heap.size, 3, none⟩ (.int .i64 i)).cell? ⟨w.heap.size, 1, none⟩ = some (.slice R2 m2 d2) := ((((r2.put 0 (.slice A2 n2 c2)).put 1 (.slice R2 m2 d2)).put 2 (.slice D2 q2 e2)).put 3 (.int .i64 i)).cell 1
  have y2 : ((((w2.setCell ⟨w.heap.size, 0, none⟩ (.slice A2 n2 c2)).setCell ⟨w.heap.size, 1, none⟩ (.slice R2 m2 d2)).setCell ⟨w.heap.size, 2, none⟩ (.slice D2 q2 e2)).setCell ⟨w.heap.size, 3, none⟩ (.int .i64 i)).cell? ⟨w.heap.size, 2, none⟩ = some (.slice D2 q2 e2) := ((((r2.put 0 (.slice A2 n2 c2)).put 1 (.slice R2 m2 d2)).put 2 (.slice D2 q2 e2)).put 3 (.int .i64 i)).cell 2
  have y3 : ((((w2.setCell ⟨w.heap.size, 0, none⟩ (.slice A2 n2 c2)).setCell ⟨w.heap.size, 1, none⟩ (.slice R2 m2 d2)).setCell ⟨w.heap.size, 2, none⟩ (.slice D2 q2 e2)).setCell ⟨w.heap.size, 3, none⟩ (.int .i64 i)).cell? ⟨w.heap.size, 3, none⟩ = some (.int .i64 i) := ((((r2.put 0 (.slice A2 n2 c2)).put 1 (.slice R2 m2 d2)).put 2 (.slice D2 q2 e2)).put 3 (.int .i64 i)).cell 3
  clear hn2 hm2 hq2 hc2 hd2 hsm hml o caps g2 hr2 r2 r1 r0 bb1 bb2 b0 b1 h0 hr1
  go_wp2_with fail
  exact bodyPost_ret (v := .agg #[.slice A2 n2 c2, .slice R2 m2 d2, .slice D2 q2 e2, .int .i64 i]) (by simp [results, Try.results23, go_sem, *]) rfl ⟨A2, n2, c2, R2, m2, d2, D2, q2, e2, hh, ms, i, rfl, HC.out.1, HC.out.2, D9.out.1, HSM.out, HML.out, D9.out.2⟩
end Go.Proofs.Ytakdjiojahlnmaa
