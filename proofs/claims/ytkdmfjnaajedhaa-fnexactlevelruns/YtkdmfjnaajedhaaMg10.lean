import Derived.Test.YtkdmfjnaajedhaaMg9
import Derived.Deep.RegionHeld3
import Derived.Deep.LoopGhost
import Derived.RegionTactic
import Derived.BigRegion
namespace Go.Proofs.Ytkdmfjnaajedhaa
open Go.ChangeShapes Go.WideShapes Go.ChangeAt Go.RowKit
set_option linter.unusedSimpArgs false
set_option linter.unusedVariables false

/-- What stands on top. -/
theorem WIn.top {w : World} {W gl gc n B k : Nat} {vr vs : Value} {lv cls : List Int} {s : TS} {al base : Int} (h : WIn w B W gl gc n vr vs lv cls s al) (hg : GoodS base k s) (hk : k ≤ 1000) :
    ∃ m gs cap xl xs xa, s.st.length = m + 1 ∧ m ≤ 1000 ∧ vs = .slice (some ⟨gs, 0, none⟩) (m + 1) cap ∧ m + 1 ≤ cap ∧ w.cell? ⟨gs, m * 3, none⟩ = some (.int .i64 xl) ∧ w.cell? ⟨gs, m * 3 + 1, none⟩ = some (.int .i64 xs) ∧ w.cell? ⟨gs, m * 3 + 2, none⟩ = some (.bool xa) ∧ topL s.st = xl ∧ topS s.st = xs ∧ topA s.st = xa ∧ gs < w.heap.size := by
  obtain ⟨x, r, hx⟩ := good_ne hg
  have hlen : s.st.length = r.length + 1 := by rw [hx, List.length_cons]
  have hm80 : r.length ≤ 1000 := by have := hg.len; omega
  have hos := h.os
  rw [hlen] at hos
  obtain ⟨gs, cap, rfl, hgs0, hgs1, hgs2, hgs3⟩ := hos.form1 (by omega)
  have ct : ∀ j, j < 3 → w.cell? ⟨gs, r.length * 3 + j, none⟩ = (tc x)[j]? := fun j hj => by
    rw [hos.cell (r.length * 3 + j) (by omega), hx, List.reverse_cons]
    have := tcells_last r.reverse x j
    rw [List.length_reverse] at this
    exact this
  exact ⟨r.length, gs, cap, x.level, x.side, x.alone, hlen, hm80, rfl, hgs2, ct 0 (by omega), ct 1 (by omega), ct 2 (by omega), by rw [hx]; rfl, by rw [hx]; rfl, by rw [hx]; rfl, hgs1⟩

theorem below_new (w : World) (o : Obj) : Below w.heap.size w (w.alloc o) := (Below.refl _ _).alloc (Nat.le_refl _) _

set_option maxHeartbeats 2000000 in
theorem specHere {W gl gc n B k : Nat} {vr vs : Value} {lv cls : List Int} {s : TS} {al base : Int} (w : World) (h : WIn w B W gl gc n vr vs lv cls s al) (hg : GoodS base k s) (hk : k ≤ 1000) (hB : B ≤ w.heap.size) (i : Nat) (hi : i < n) (c : Int) :
    Calls Try.prog 53 #[.pointer (some ⟨W, 0, none⟩), .int .i64 i, .int .i64 c] w fun e w' => e = .returned (.tuple #[]) ∧ WIn w' B W gl gc n vr vs (lv.set i (topL s.st)) (cls.set i (sdT s.st c)) s al ∧ Below B w w' := by
  obtain ⟨m, gs, cap, xl, xs, xa, hlen, hm, rfl, hmc, ct0, ct1, ct2, e0, e1, e2, hgs⟩ := h.top hg hk
  unfold sdT
  rw [e0, e1]
  have E0 : Hid _ := e0
  have E1 : Hid _ := e1
  have HL : Hid _ := hlen
  have c3 := h.c3
  have H : Hid _ := h
  have hw0 : IntKind.i64.wrap (m : Int) = (m : Int) := by rw [IntKind.wrap_i64]; omega
  have hp0 : (0 : Int) ≤ (m : Int) := by omega
  have hp1 : (m : Int) < (m : Int) + 1 := by omega
  clear hlen e0 e1 e2 h hg
  go_enter Try.func53, Try.ntmps53
  go_wp2_with fail
  go_region_held3 (fun w' => w'.cell? ⟨W, 3, none⟩ = some (.slice (some ⟨gs, 0, none⟩) (m + 1) cap) ∧ w'.cell? ⟨gs, m * 3, none⟩ = some (.int .i64 xl) ∧ w'.cell? ⟨gs, m * 3 + 1, none⟩ = some (.int .i64 xs) ∧ w'.cell? ⟨gs, m * 3 + 2, none⟩ = some (.bool xa)) (go_keep) (fail)
  go_wp2_with fail
  obtain ⟨b, hb⟩ : ∃ b, w.heap.size = b := ⟨_, rfl⟩
  have k0 : (w.alloc (.cells #[.int .i64 xl, .int .i64 xs, .bool xa] 54)).cell? ⟨w.heap.size, 0, none⟩ = some (.int .i64 xl) := by go_simp
  have k1 : (w.alloc (.cells #[.int .i64 xl, .int .i64 xs, .bool xa] 54)).cell? ⟨w.heap.size, 1, none⟩ = some (.int .i64 xs) := by go_simp
  have HW1 : Hid (WIn (w.alloc (.cells #[.int .i64 xl, .int .i64 xs, .bool xa] 54)).drew B W gl gc n vr (.slice (some ⟨gs, 0, none⟩) (m + 1) cap) lv cls s al) := H.out.below ((below_new _ _).drew)
  have B1 : Hid (Below B w (w.alloc (.cells #[.int .i64 xl, .int .i64 xs, .bool xa] 54)).drew) := ((below_new w _).drew).mono hB
  obtain ⟨w1, hw1⟩ : ∃ W', (w.alloc (.cells #[.int .i64 xl, .int .i64 xs, .bool xa] 54)).drew = W' := ⟨_, rfl⟩
  replace k0 : w1.cell? ⟨b, 0, none⟩ = some (.int .i64 xl) := by rw [← hw1, ← hb]; exact k0
  replace k1 : w1.cell? ⟨b, 1, none⟩ = some (.int .i64 xs) := by rw [← hw1, ← hb]; exact k1
  have hbg : b ≠ gl ∧ b ≠ gc := by have := H.out.gllt.2; have := H.out.gclt.2; omega
  rw [hw1] at HW1 B1 ⊢
  rw [hb]
  clear hw1 hb c3 ct0 ct1 ct2
  have c1 := HW1.out.c1
  have c2 := HW1.out.c2
  have q1 : ¬ gl = W := H.out.nWl
  have q2 : ¬ gl = b := fun e => hbg.1 e.symm
  have q3 : ¬ gc = W := H.out.nWc
  have q4 : ¬ gc = b := fun e => hbg.2 e.symm
  have hi0 : (0 : Int) ≤ (i : Int) := by omega
  have hi1 : (i : Int) < (n : Int) := by omega
  have cl := HW1.out.ol.cellN i hi
  have fl := HW1.out.ol.frozenN i
  have q5 : ¬ gl = gc := H.out.nlc
  have cc := HW1.out.oc.cellN i hi
  have fc := HW1.out.oc.frozenN i
  have fin : ∀ y, Hid (WIn ((w1.setCell ⟨gl, i, none⟩ (.int .i64 xl)).setCell ⟨gc, i, none⟩ (.int .i64 y)).drew B W gl gc n vr (.slice (some ⟨gs, 0, none⟩) (m + 1) cap) (lv.set i xl) (cls.set i y) s al ∧ Below B w ((w1.setCell ⟨gl, i, none⟩ (.int .i64 xl)).setCell ⟨gc, i, none⟩ (.int .i64 y)).drew) := fun y =>
    ⟨((HW1.out.setL i xl).setC i y).below (Below.refl _ _).drew, ((HW1.out.setL i xl).blwC (HW1.out.blwL B1.out i _) i _).drew⟩
  have FIN : Hid _ := fin
  clear fin
  by_cases hx : xs = 0
  · have hx1 : (xs != 0) = false := by simpa using hx
    have HX : Hid _ := hx
    clear hx
    go_region_held3 (fun w' => w'.cell? ⟨W, 1, none⟩ = some (.slice (some ⟨gl, 0, none⟩) n n) ∧ w'.cell? ⟨b, 0, none⟩ = some (.int .i64 xl)) (go_keep) (fail)
    all_goals go_wp2_with fail
    all_goals (go_end0; refine ⟨rfl, ?_⟩; (try rw [if_neg (by rw [HX.out]; simp)]); exact (FIN.out c).out)
  · have hx1 : (xs != 0) = true := by simpa using hx
    have HX : Hid _ := hx
    clear hx
    go_region_held3 (fun w' => w'.cell? ⟨W, 1, none⟩ = some (.slice (some ⟨gl, 0, none⟩) n n) ∧ w'.cell? ⟨b, 0, none⟩ = some (.int .i64 xl)) (go_keep) (fail)
    all_goals go_wp2_with fail
    all_goals (go_end0; refine ⟨rfl, ?_⟩; (try rw [if_pos HX.out]); exact (FIN.out xs).out)
end Go.Proofs.Ytkdmfjnaajedhaa
namespace Go.Proofs.Ytkdmfjnaajedhaa
open Go.ChangeShapes Go.WideShapes Go.ChangeAt Go.RowKit
set_option linter.unusedSimpArgs false
set_option linter.unusedVariables false

theorem end_lost {st : List Tl} {lost skip : Int} (h : 0 < lost) : endT ⟨st, lost, skip⟩ = ⟨st, lost - 1, skip⟩ := by unfold endT; exact if_pos h
theorem end_none {st : List Tl} {lost skip : Int} (h : ¬ 0 < lost) (ha : cntA st = 0) : endT ⟨st, lost, skip⟩ = ⟨st, lost, skip⟩ := by
  unfold endT
  rw [if_neg (by exact h), if_neg]
  rw [hasA_cnt]; show ¬ 0 < cntA st; omega
theorem end_some {st : List Tl} {lost skip : Int} (h : ¬ 0 < lost) (ha : 0 < cntA st) : endT ⟨st, lost, skip⟩ = ⟨cutA st, lost, 0⟩ := by
  unfold endT
  rw [if_neg (by exact h), if_pos ((hasA_cnt _).2 ha)]
/-- What stands on top, by a stack that is known. -/
theorem WIn.topc {w : World} {W gl gc n B : Nat} {vr vs : Value} {lv cls : List Int} {al lost skip : Int} {x : Tl} {r : List Tl} (h : WIn w B W gl gc n vr vs lv cls ⟨x :: r, lost, skip⟩ al) :
    ∃ gs cap, vs = .slice (some ⟨gs, 0, none⟩) (r.length + 1) cap ∧ r.length + 1 ≤ cap ∧ w.cell? ⟨gs, r.length * 3, none⟩ = some (.int .i64 x.level) ∧ w.cell? ⟨gs, r.length * 3 + 1, none⟩ = some (.int .i64 x.side) ∧ w.cell? ⟨gs, r.length * 3 + 2, none⟩ = some (.bool x.alone) := by
  have hos := h.os
  simp only [List.length_cons] at hos
  obtain ⟨gs, cap, rfl, hgs0, hgs1, hgs2, hgs3⟩ := hos.form1 (by omega)
  have ct : ∀ j, j < 3 → w.cell? ⟨gs, r.length * 3 + j, none⟩ = (tc x)[j]? := fun j hj => by
    rw [hos.cell (r.length * 3 + j) (by omega), List.reverse_cons]
    have := tcells_last r.reverse x j
    rw [List.length_reverse] at this
    exact this
  exact ⟨gs, cap, rfl, hgs2, ct 0 (by omega), ct 1 (by omega), ct 2 (by omega)⟩

set_option maxHeartbeats 2000000 in
theorem specEnds {W gl gc n B : Nat} {vr vs : Value} {lv cls : List Int} {s : TS} (w : World) (h : WIn w B W gl gc n vr vs lv cls s (cntA s.st)) (hl : s.st.length ≤ 1001) (h0 : 0 ≤ s.lost) (h1 : s.lost ≤ 1000) (hB : B ≤ w.heap.size) :
    Calls Try.prog 56 #[.pointer (some ⟨W, 0, none⟩)] w fun e w' => e = .returned (.tuple #[]) ∧ (∃ vs', WIn w' B W gl gc n vr vs' lv cls (endT s) (cntA (endT s).st)) ∧ Below B w w' := by
  obtain ⟨st, lost, skip⟩ := s
  have c4 := h.c4
  have c6 := h.c6
  have f4 := h.fz 4
  have hb1 := cntA_nn st
  have hb2 := cntA_le st
  simp only at c4 c6 h0 h1 hl h
  obtain ⟨al, hal⟩ : ∃ al, cntA st = al := ⟨_, rfl⟩
  rw [hal] at c6 h hb1 hb2
  have H : Hid _ := h
  have HAL : Hid _ := hal
  by_cases hp : 0 < lost
  · rw [end_lost hp]
    have hp1 : decide (lost > 0) = true := by simpa using hp
    clear h hal
    go_enter Try.func56, Try.ntmps56
    go_wp2_with fail
    refine bodyPost_ret (results_none rfl _ _ _) rfl ?_
    exact ⟨rfl, ⟨_, by rw [HAL.out]; exact H.out.put4 (lost - 1)⟩, H.out.blw (Below.refl _ _) 4 _⟩
  · have hp1 : decide (lost > 0) = false := by simpa using hp
    have hz : lost = 0 := by omega
    subst hz
    by_cases ha : al = 0
    · rw [end_none (by omega) (by omega)]
      subst ha
      clear h hal
      go_enter Try.func56, Try.ntmps56
      go_wp2_with fail
      refine bodyPost_ret (results_none rfl _ _ _) rfl ?_
      exact ⟨rfl, ⟨_, by show WIn _ B W gl gc n vr _ lv cls ⟨st, 0, skip⟩ (cntA st); rw [HAL.out]; exact H.out⟩, Below.refl _ _⟩
    · rw [end_some (by omega) (by omega)]
      have ha1 : (al == 0) = false := by simpa using ha
      have c5 := h.c5
      have f5 := h.fz 5
      have H5 : Hid (WIn (w.setCell ⟨W, 5, none⟩ (.int .i64 0)) B W gl gc n vr vs lv cls ⟨st, 0, 0⟩ al) := h.put5 0
      have B5 : Hid (Below B w (w.setCell ⟨W, 5, none⟩ (.int .i64 0))) := h.blw (Below.refl _ _) 5 _
      clear h hal
      go_enter Try.func56, Try.ntmps56
      go_wp2_with fail
      go_loopg [] 1001 (fun g wr => ∃ (vs' : Value) (st' : List Tl), WIn wr B W gl gc n vr vs' lv cls ⟨st', 0, 0⟩ al ∧ st'.length ≤ g ∧ Hid (cntA st' = al) ∧ Hid (cutA st' = cutA st) ∧ Below B w wr ∧ g ≤ 1001)
      case atStart => exact ⟨vs, st, H5.out, hl, HAL.out, rfl, B5.out, by omega⟩
      case round =>
        obtain ⟨vs', st', hw, hlen, hc1, hc2, hbw, hg⟩ := hrel
        cases st' with
        | nil => exfalso; have := hc1.out; simp [cntA] at this; omega
        | cons x r =>
          obtain ⟨gs, cap, rfl, hcap, t0, t1, t2⟩ := hw.topc
          have hlen2 : r.length + 1 ≤ gk := by simpa using hlen
          obtain ⟨m, hm⟩ : ∃ m, r.length = m := ⟨_, rfl⟩
          rw [hm] at hlen2 hcap t2 hw
          have HM : Hid _ := hm
          have d3 := hw.c3
          have d6 := hw.c6
          have e3 := hw.fz 3
          have e6 := hw.fz 6
          have hw0 : IntKind.i64.wrap (m : Int) = (m : Int) := by rw [IntKind.wrap_i64]; omega
          have hp0 : (0 : Int) ≤ (m : Int) := by omega
          have hp1 : (m : Int) < (m : Int) + 1 := by omega
          have hp2 : (m : Int) ≤ (cap : Int) := by omega
          have HW : Hid _ := hw
          obtain ⟨xa, hxa⟩ : ∃ xa, x.alone = xa := ⟨_, rfl⟩
          rw [hxa] at t2
          have HXA : Hid _ := hxa
          clear t0 t1 hm hw hlen hxa
          have hx3 : ∀ q, WIn ((wr.drewN q).setCell ⟨W, 3, none⟩ (.slice (some ⟨gs, 0, none⟩) m cap)) B W gl gc n vr (.slice (some ⟨gs, 0, none⟩) m cap) lv cls ⟨r, 0, 0⟩ al := fun q =>
            (HW.out.drewN q).put3 (by rw [List.length_cons, HM.out]) HM.out [x] rfl
          have hx4 : ∀ q, Below B w ((wr.drewN q).setCell ⟨W, 3, none⟩ (.slice (some ⟨gs, 0, none⟩) m cap)) := fun q => (HW.out.drewN q).blw (hbw.trans ((below_draws wr q).mono (Nat.le_trans hB hbw.size))) 3 _
          have HX3 : Hid _ := hx3
          have HX4 : Hid _ := hx4
          clear hx3 hx4
          cases xa
          · go_wp2_with fail
            go_quiet (fail)
            go_wp2_with fail
            go_region
            all_goals go_wp2_with fail
            all_goals
              go_roundg (gk - 1)
              case measure => omega
              case rel =>
                refine ⟨_, r, HX3.out _, by rw [HM.out]; omega, ?_, ?_, HX4.out _, by omega⟩
                · show cntA r = al
                  have := hc1.out; simp only [cntA] at this; rw [HXA.out] at this; simpa using this
                · show cutA r = cutA st
                  rw [← hc2.out]; simp only [cutA]; rw [HXA.out]; simp
          · go_wp2_with fail
            go_quiet (fail)
            go_wp2_with fail
            go_region
            all_goals go_wp2_with fail
            all_goals
              go_end0
              have e1 : cutA st = r := by rw [← hc2.out]; simp only [cutA]; rw [HXA.out]; simp
              have e2 : cntA r = al - 1 := by
                have := hc1.out; simp only [cntA] at this; rw [HXA.out] at this; simp at this; omega
              rw [e1, e2]
              exact ⟨rfl, ⟨_, (HX3.out _).put6 (al - 1)⟩, (HX3.out _).blw (HX4.out _) 6 _⟩

theorem drop_lost {st : List Tl} {lost skip : Int} (h : 0 < lost) : dropT ⟨st, lost, skip⟩ = ⟨st, lost, skip⟩ := by unfold dropT; exact if_pos h
theorem drop_skip {st : List Tl} {lost skip : Int} (h : ¬ 0 < lost) (h2 : 0 < skip) : dropT ⟨st, lost, skip⟩ = ⟨st, lost, skip - 1⟩ := by unfold dropT; rw [if_neg (by exact h)]; exact if_pos h2
theorem drop_top {st : List Tl} {lost skip : Int} (h : ¬ 0 < lost) (h2 : ¬ 0 < skip) : dropT ⟨st, lost, skip⟩ = ⟨dropL st, lost, skip⟩ := by unfold dropT; rw [if_neg (by exact h), if_neg (by exact h2)]

set_option maxHeartbeats 2000000 in
theorem specDrops {W gl gc n B : Nat} {vr vs : Value} {lv cls : List Int} {s : TS} (w : World) (h : WIn w B W gl gc n vr vs lv cls s (cntA s.st)) (hne : ∃ x r, s.st = x :: r) (hl : s.st.length ≤ 1001) (h0 : 0 ≤ s.lost) (h1 : s.lost ≤ 1000) (h2 : 0 ≤ s.skip) (h3 : s.skip ≤ 1000) (hB : B ≤ w.heap.size) :
    Calls Try.prog 52 #[.pointer (some ⟨W, 0, none⟩)] w fun e w' => e = .returned (.tuple #[]) ∧ (∃ vs', WIn w' B W gl gc n vr vs' lv cls (dropT s) (cntA (dropT s).st)) ∧ Below B w w' := by
  obtain ⟨st, lost, skip⟩ := s
  obtain ⟨x, r, hx⟩ := hne
  simp only at hx h0 h1 h2 h3 hl h
  subst hx
  have c4 := h.c4
  have c5 := h.c5
  have f5 := h.fz 5
  simp only at c4 c5
  have H : Hid _ := h
  by_cases hp : 0 < lost
  · rw [drop_lost hp]
    have hp1 : decide (lost > 0) = true := by simpa using hp
    clear h
    go_enter Try.func52, Try.ntmps52
    go_wp2_with fail
    refine bodyPost_ret (results_none rfl _ _ _) rfl ?_
    exact ⟨rfl, ⟨_, H.out⟩, Below.refl _ _⟩
  · have hp1 : decide (lost > 0) = false := by simpa using hp
    by_cases hs : 0 < skip
    · rw [drop_skip hp hs]
      have hs1 : decide (skip > 0) = true := by simpa using hs
      clear h
      go_enter Try.func52, Try.ntmps52
      go_wp2_with fail
      refine bodyPost_ret (results_none rfl _ _ _) rfl ?_
      exact ⟨rfl, ⟨_, H.out.put5 (skip - 1)⟩, H.out.blw (Below.refl _ _) 5 _⟩
    · rw [drop_top hp hs]
      have hs1 : decide (skip > 0) = false := by simpa using hs
      obtain ⟨gs, cap, rfl, hcap, t0, t1, t2⟩ := h.topc
      obtain ⟨m, hm⟩ : ∃ m, r.length = m := ⟨_, rfl⟩
      have hm2 : m ≤ 1000 := by simp only [List.length_cons] at hl; omega
      rw [hm] at hcap t2 h
      have HM : Hid _ := hm
      have c3 := h.c3
      have f3 := h.fz 3
      obtain ⟨xa, hxa⟩ : ∃ xa, x.alone = xa := ⟨_, rfl⟩
      rw [hxa] at t2
      have HXA : Hid _ := hxa
      have HW : Hid _ := h
      have hw0 : IntKind.i64.wrap (m : Int) = (m : Int) := by rw [IntKind.wrap_i64]; omega
      have hp0 : (0 : Int) ≤ (m : Int) := by omega
      have hq1 : (m : Int) < (m : Int) + 1 := by omega
      have hp2 : (m : Int) ≤ (cap : Int) := by omega
      clear t0 t1 hm h H hxa hl
      cases xa
      · have hnx : (!false) = true := rfl
        cases r with
        | nil =>
          have e0 : m = 0 := HM.out.symm
          subst e0
          go_enter Try.func52, Try.ntmps52
          go_wp2_with fail
          go_quiet (fail)
          go_wp2_with fail
          go_end0
          exact ⟨rfl, ⟨_, (HW.out.drewN _)⟩, (below_draws w _).mono hB⟩
        | cons y r =>
          have hm0 : 0 < m := by rw [← HM.out]; simp
          have hmd : decide ((m : Int) + 1 > 1) = true := by simp; omega
          have hd1 : cntA (x :: y :: r) = cntA (y :: r) := by
            show (if x.alone = true then 1 else 0) + cntA (y :: r) = _; rw [HXA.out]; simp
          have hd2 : dropL (x :: y :: r) = y :: r := by
            show (if x.alone = true then x :: y :: r else y :: r) = _; rw [HXA.out]; simp
          have HD1 : Hid _ := hd1
          have hx3 : ∀ q, WIn ((w.drewN q).setCell ⟨W, 3, none⟩ (.slice (some ⟨gs, 0, none⟩) m cap)) B W gl gc n vr (.slice (some ⟨gs, 0, none⟩) m cap) lv cls ⟨y :: r, lost, skip⟩ (cntA (x :: y :: r)) := fun q =>
            (HW.out.drewN q).put3 (by rw [List.length_cons, HM.out]) HM.out [x] rfl
          have hx4 : ∀ q, Below B w ((w.drewN q).setCell ⟨W, 3, none⟩ (.slice (some ⟨gs, 0, none⟩) m cap)) := fun q => (HW.out.drewN q).blw ((below_draws w q).mono hB) 3 _
          have HX3 : Hid _ := hx3
          have HX4 : Hid _ := hx4
          rw [hd2]
          clear hx3 hx4 hd1 hd2
          go_enter Try.func52, Try.ntmps52
          go_wp2_with fail
          go_quiet (fail)
          go_wp2_with fail
          go_region
          all_goals go_wp2_with fail
          all_goals
            go_end0
            refine ⟨rfl, ⟨.slice (some ⟨gs, 0, none⟩) m cap, ?_⟩, HX4.out _⟩
            show WIn _ B W gl gc n vr _ lv cls ⟨y :: r, lost, skip⟩ (cntA (y :: r))
            rw [← HD1.out]
            exact HX3.out _
      · go_enter Try.func52, Try.ntmps52
        go_wp2_with fail
        go_quiet (fail)
        go_wp2_with fail
        go_end0
        have hd2 : dropL (x :: r) = x :: r := by
          cases r with
          | nil => rfl
          | cons y r => show (if x.alone = true then x :: y :: r else y :: r) = _; rw [HXA.out]; simp
        rw [hd2]
        exact ⟨rfl, ⟨_, (HW.out.drewN _)⟩, (below_draws w _).mono hB⟩
end Go.Proofs.Ytkdmfjnaajedhaa
namespace Go.Proofs.Ytkdmfjnaajedhaa
open Go.ChangeShapes Go.WideShapes Go.ChangeAt Go.RowKit
set_option linter.unusedSimpArgs false

theorem rowTold : RowT 54 3 24 := ⟨by kernel_rfl, by kernel_rfl⟩

theorem push_yes {st : List Tl} {lost skip : Int} {right : Bool} (side : Int) (alone : Bool) {u : Int} (hu : upL (topL st) right = u) (h1 : u ≤ 20) (h2 : lost = 0) (h3 : skip = 0) : pushT ⟨st, lost, skip⟩ right side alone = ⟨⟨u, side, alone⟩ :: st, lost, skip⟩ := by
  subst hu; unfold pushT; rw [if_pos ⟨h1, h2, h3⟩]
theorem push_no {st : List Tl} {lost skip : Int} {right : Bool} (side : Int) (alone : Bool) {u : Int} (hu : upL (topL st) right = u) (h : 20 < u ∨ lost ≠ 0 ∨ skip ≠ 0) : pushT ⟨st, lost, skip⟩ right side alone = if alone = true then ⟨st, lost + 1, skip⟩ else if lost = 0 then ⟨st, lost, skip + 1⟩ else ⟨st, lost, skip⟩ := by
  subst hu; unfold pushT; rw [if_neg (by show ¬ (upL (topL st) right ≤ 20 ∧ lost = 0 ∧ skip = 0); omega)]

set_option maxHeartbeats 2000000 in
theorem specPush {W gl gc n B k : Nat} {vr vs : Value} {lv cls : List Int} {s : TS} {base : Int} (w : World) (h : WIn w B W gl gc n vr vs lv cls s (cntA s.st)) (hg : GoodS base k s) (hk : k ≤ 1000) (hb0 : 0 ≤ base) (hB : B ≤ w.heap.size) (right : Bool) (side : Int) (alone : Bool) :
    Calls Try.prog 51 #[.pointer (some ⟨W, 0, none⟩), .bool right, .int .i64 side, .bool alone] w fun e w' => e = .returned (.tuple #[]) ∧ (∃ vs', WIn w' B W gl gc n vr vs' lv cls (pushT s right side alone) (cntA (pushT s right side alone).st)) ∧ Below B w w' := by
  obtain ⟨x, r, hx⟩ := good_ne hg
  obtain ⟨m, hm⟩ : ∃ m, r.length = m := ⟨_, rfl⟩
  have hlen : s.st.length = m + 1 := by rw [hx, List.length_cons, hm]
  have hm80 : m ≤ 1000 := by have := hg.len; omega
  have hos := h.os
  rw [hlen] at hos
  obtain ⟨gs, cap, rfl, hgs0, hgs1, hgs2, hgs3⟩ := hos.form1 (by omega)
  have ct : w.cell? ⟨gs, m * 3, none⟩ = some (.int .i64 x.level) := by
    rw [hos.cell (m * 3) (by omega), hx, List.reverse_cons]
    have := tcells_last r.reverse x 0
    rw [List.length_reverse, hm] at this
    exact this
  have htop : topL s.st = x.level := by rw [hx]; rfl
  have hb1 := cntA_nn s.st
  have hb2 := cntA_le s.st
  have c3 := h.c3
  have c4 := h.c4
  have c5 := h.c5
  have c6 := h.c6
  have hl0 := hg.lost0
  have hlk := hg.lostk
  have hs0 := hg.skip0
  have hsk := hg.skipk
  have hbx := (hg.le x (by rw [hx]; simp))
  have hbx1 : 0 ≤ x.level := by omega
  have hbx2 : x.level ≤ 100 := by omega
  have f3 := h.fz 3
  have f4 := h.fz 4
  have f5 := h.fz 5
  have f6 := h.fz 6
  obtain ⟨st, lost, skip⟩ := s
  simp only at c4 c5 c6 hl0 hlk hs0 hsk htop hb1 hb2 hlen hx h hos
  rw [hlen] at hb2
  obtain ⟨al, hal⟩ : ∃ al, cntA st = al := ⟨_, rfl⟩
  obtain ⟨xl, hxl⟩ : ∃ xl, x.level = xl := ⟨_, rfl⟩
  rw [hal] at hb1 hb2 c6 h
  rw [hxl] at htop ct hbx hbx1 hbx2
  obtain ⟨u, hu⟩ : ∃ u, upL xl right = u := ⟨_, rfl⟩
  have hub := upL_bd xl right
  rw [hu] at hub
  have HU : Hid (upL xl right = u) := hu
  have HS : Hid (upL (topL st) right = u) := by show _ = _; rw [htop, hu]
  have HL : Hid _ := hlen
  have H : Hid _ := h
  have HO : Hid (OwnV 54 3 w B (.slice (some ⟨gs, 0, none⟩) (m + 1) cap) (m + 1) (tcells st.reverse)) := hos
  have HAL : Hid _ := hal
  clear hx hlen h hg hos htop hu hal hxl hm hbx
  have hub1 := hub.1
  have hub2 := hub.2
  clear hub
  by_cases hV : u ≤ 20 ∧ lost = 0 ∧ skip = 0
  · obtain ⟨hu1, rfl, rfl⟩ := hV
    have HP : Hid (pushT ⟨st, 0, 0⟩ right side alone = ⟨⟨u, side, alone⟩ :: st, 0, 0⟩) := push_yes side alone HS.out hu1 rfl rfl
    have arm : ∀ W1 : World, WIn W1 B W gl gc n vr (.slice (some ⟨gs, 0, none⟩) (m + 1) cap) lv cls ⟨st, 0, 0⟩ (if alone = true then al + 1 else al) → Below B w W1 → B ≤ W1.heap.size → ∀ v' w', OwnV 54 3 w' B v' (m + 1 + 1) (tcells st.reverse ++ [.int .i64 u, .int .i64 side, .bool alone]) → W1.grownBy w' (Value.slice (some ⟨gs, 0, none⟩) (m + 1) cap).ownBlock → (v'.ownBlock = (Value.slice (some ⟨gs, 0, none⟩) (m + 1) cap).ownBlock ∨ v'.ownBlock = some (W1.heap.size + 1)) →
        (∃ g' cap', v' = .slice (some ⟨g', 0, none⟩) (m + 1 + 1) cap') ∧ w'.cell? ⟨W, 3, none⟩ = some (.slice (some ⟨gs, 0, none⟩) (m + 1) cap) ∧ w'.frozen? ⟨W, 3, none⟩ = false ∧ Hid ((∃ vs', WIn (w'.setCell ⟨W, 3, none⟩ v') B W gl gc n vr vs' lv cls (pushT ⟨st, 0, 0⟩ right side alone) (cntA (pushT ⟨st, 0, 0⟩ right side alone).st)) ∧ Below B w (w'.setCell ⟨W, 3, none⟩ v')) := by
      intro W1 h1 b1 hB1 v' w' ho hgr hv
      obtain ⟨g', cap', e', _⟩ := ho.form1 (by omega)
      have hbk := hgr.block W h1.lt (by intro e; have := (h1.ns gs rfl).1; simp [Value.ownBlock] at e; omega)
      refine ⟨⟨g', cap', e'⟩, (World.cell?_of_block (w := W1) hbk).trans h1.c3, (World.frozen?_of_block (w := W1) hbk).trans (h1.fz 3), ⟨v', ?_⟩, h1.pushBelow b1 hB1 hgr⟩
      rw [HP.out]
      have := h1.push (x := ⟨u, side, alone⟩) (vs' := v') hgr (by rw [HL.out]; exact ho) (by rcases hv with e | e; exact .inl e; exact .inr ⟨_, e, by omega⟩)
      have ec : cntA (⟨u, side, alone⟩ :: st) = (if alone = true then al + 1 else al) := by
        simp only [cntA]; rw [HAL.out]; cases alone <;> simp; omega
      show WIn _ B W gl gc n vr v' lv cls _ (cntA (⟨u, side, alone⟩ :: st))
      rw [ec]; exact this
    have ARM : Hid _ := arm
    clear arm
    cases alone
    · go_enter Try.func51, Try.ntmps51
      go_wp2_with fail
      go_quiet ((go_at_call 76; exact Calls.quiet_of_same (specUp _ _ _ (by assumption) (by assumption))))
      rw [HU.out]
      go_wp2_with (at_builtin; refine own_appendV (k := 3) (b := 24) (T := 54) (TS := 36) (.tmp 53) (.tmp 58) (by simp) rowTold Try.underlying36 (HO.out.drewN _) (by omega) (by first | exact hB | simpa using hB) (by omega) (by omega) rfl (by simp [Value.oneCell']) rfl rfl rfl rfl ?_; intro v' w' ho' hgr' hv'; obtain ⟨⟨g', cap', rfl⟩, c3', f3', R⟩ := ARM.out (w.drewN nq) (H.out.drewN nq) ((below_draws w nq).mono hB) hB _ w' ho' hgr' hv')
      refine bodyPost_ret (results_none rfl _ _ _) rfl ?_
      exact ⟨rfl, R.out⟩
    · go_enter Try.func51, Try.ntmps51
      go_wp2_with fail
      go_quiet ((go_at_call 76; exact Calls.quiet_of_same (specUp _ _ _ (by assumption) (by assumption))))
      rw [HU.out]
      have H6 : Hid (WIn ((w.drewN nq).setCell ⟨W, 6, none⟩ (.int .i64 (al + 1))) B W gl gc n vr (.slice (some ⟨gs, 0, none⟩) (m + 1) cap) lv cls ⟨st, 0, 0⟩ (al + 1)) := (H.out.drewN nq).put6 (al + 1)
      have B6 : Hid (Below B w ((w.drewN nq).setCell ⟨W, 6, none⟩ (.int .i64 (al + 1)))) := (H.out.drewN nq).blw ((below_draws w nq).mono hB) 6 _
      have O6 : Hid (OwnV 54 3 ((w.drewN nq).setCell ⟨W, 6, none⟩ (.int .i64 (al + 1))) B (.slice (some ⟨gs, 0, none⟩) (m + 1) cap) (m + 1) (tcells st.reverse)) := by have := H6.out.os; simp only at this; rwa [HL.out] at this
      have hB6 : B ≤ ((w.drewN nq).setCell ⟨W, 6, none⟩ (.int .i64 (al + 1))).heap.size := by rw [World.size_setCell]; exact hB
      have c36 := H6.out.c3
      have f36 := H6.out.fz 3
      go_wp2_with (at_builtin; refine own_appendV (k := 3) (b := 24) (T := 54) (TS := 36) (.tmp 53) (.tmp 58) (by simp) rowTold Try.underlying36 O6.out (by omega) hB6 (by omega) (by omega) rfl (by simp [Value.oneCell']) rfl rfl rfl rfl ?_; intro v' w' ho' hgr' hv'; obtain ⟨⟨g', cap', rfl⟩, c3', f3', R⟩ := ARM.out _ H6.out B6.out hB6 _ w' ho' hgr' hv')
      refine bodyPost_ret (results_none rfl _ _ _) rfl ?_
      exact ⟨rfl, R.out⟩
  · have hno : 20 < u ∨ lost ≠ 0 ∨ skip ≠ 0 := by omega
    have HP : Hid (pushT ⟨st, lost, skip⟩ right side alone = if alone = true then ⟨st, lost + 1, skip⟩ else if lost = 0 then ⟨st, lost, skip + 1⟩ else ⟨st, lost, skip⟩) := push_no side alone HS.out hno
    have key : (20 < u ∧ (decide (u ≤ 20) = false)) ∨ (u ≤ 20 ∧ decide (u ≤ 20) = true ∧ lost ≠ 0 ∧ (lost == 0) = false) ∨ (u ≤ 20 ∧ decide (u ≤ 20) = true ∧ lost = 0 ∧ skip ≠ 0 ∧ (skip == 0) = false) := by
      by_cases a : 20 < u
      · exact .inl ⟨a, by simpa using a⟩
      · by_cases b : lost = 0
        · exact .inr (.inr ⟨by omega, by simp; omega, b, by omega, by simp; omega⟩)
        · exact .inr (.inl ⟨by omega, by simp; omega, b, by simpa using b⟩)
    clear hno hV
    have fin4 : alone = true → ∀ nq, Hid ((∃ vs', WIn ((w.drewN nq).setCell ⟨W, 4, none⟩ (.int .i64 (lost + 1))) B W gl gc n vr vs' lv cls (pushT ⟨st, lost, skip⟩ right side alone) (cntA (pushT ⟨st, lost, skip⟩ right side alone).st)) ∧ Below B w ((w.drewN nq).setCell ⟨W, 4, none⟩ (.int .i64 (lost + 1)))) := fun ha nq => by
      unfold Hid
      rw [HP.out, if_pos ha]
      refine ⟨⟨.slice (some ⟨gs, 0, none⟩) (m + 1) cap, ?_⟩, (H.out.drewN nq).blw ((below_draws w nq).mono hB) 4 _⟩
      show WIn _ B W gl gc n vr _ lv cls ⟨st, lost + 1, skip⟩ (cntA st)
      rw [HAL.out]; exact (H.out.drewN nq).put4 (lost + 1)
    have fin5 : alone = false → lost = 0 → ∀ nq, Hid ((∃ vs', WIn ((w.drewN nq).setCell ⟨W, 5, none⟩ (.int .i64 (skip + 1))) B W gl gc n vr vs' lv cls (pushT ⟨st, lost, skip⟩ right side alone) (cntA (pushT ⟨st, lost, skip⟩ right side alone).st)) ∧ Below B w ((w.drewN nq).setCell ⟨W, 5, none⟩ (.int .i64 (skip + 1)))) := fun ha h0 nq => by
      unfold Hid
      rw [HP.out, if_neg (by rw [ha]; simp), if_pos h0]
      refine ⟨⟨.slice (some ⟨gs, 0, none⟩) (m + 1) cap, ?_⟩, (H.out.drewN nq).blw ((below_draws w nq).mono hB) 5 _⟩
      show WIn _ B W gl gc n vr _ lv cls ⟨st, lost, skip + 1⟩ (cntA st)
      rw [HAL.out]; exact (H.out.drewN nq).put5 (skip + 1)
    have fin0 : alone = false → lost ≠ 0 → ∀ nq, Hid ((∃ vs', WIn (w.drewN nq) B W gl gc n vr vs' lv cls (pushT ⟨st, lost, skip⟩ right side alone) (cntA (pushT ⟨st, lost, skip⟩ right side alone).st)) ∧ Below B w (w.drewN nq)) := fun ha h0 nq => by
      unfold Hid
      rw [HP.out, if_neg (by rw [ha]; simp), if_neg h0]
      refine ⟨⟨.slice (some ⟨gs, 0, none⟩) (m + 1) cap, ?_⟩, (below_draws w nq).mono hB⟩
      show WIn _ B W gl gc n vr _ lv cls ⟨st, lost, skip⟩ (cntA st)
      rw [HAL.out]; exact H.out.drewN nq
    have F4 : Hid _ := fin4
    have F5 : Hid _ := fin5
    have F0 : Hid _ := fin0
    clear fin4 fin5 fin0
    have key2 : (lost = 0 ∧ (lost == 0) = true) ∨ (lost ≠ 0 ∧ (lost == 0) = false) := by
      by_cases q : lost = 0
      · exact .inl ⟨q, by simpa using q⟩
      · exact .inr ⟨q, by simpa using q⟩
    rcases key2 with ⟨q0, q1⟩ | ⟨q0, q1⟩
    all_goals
      have Q0 : Hid _ := q0
      clear q0
      (rcases key with ⟨k1, k2⟩ | ⟨k1, k2, k3, k4⟩ | ⟨k1, k2, k3, k4, k5⟩) <;> cases alone
    all_goals first
      | (exfalso; have := Q0.out; omega)
      | (try (have K3 : Hid _ := k3; clear k3)
         go_enter Try.func51, Try.ntmps51
         go_wp2_with fail
         go_quiet ((go_at_call 76; exact Calls.quiet_of_same (specUp _ _ _ (by assumption) (by assumption))))
         rw [HU.out]
         go_wp2_with fail
         first
           | refine bodyPost_ret (results_none rfl _ _ _) rfl ?_
           | refine bodyPost_end (results_none rfl _ _ _) rfl ?_
         first
           | exact ⟨rfl, (F4.out (by simp) _).out⟩
           | exact ⟨rfl, (F5.out (by simp) Q0.out _).out⟩
           | exact ⟨rfl, (F0.out (by simp) Q0.out _).out⟩)
end Go.Proofs.Ytkdmfjnaajedhaa
