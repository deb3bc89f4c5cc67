import Derived.Test.YtgojdlbidjnmmaaGreatToldS3
import Derived.Deep.LoopGhost
import Derived.RegionTactic
import Derived.BigRegion
namespace Go.Proofs.YtgojdlbidjnmmaaGreat
open Go.ChangeShapes Go.WideShapes Go.ChangeAt Go.RowKit
set_option linter.unusedSimpArgs false
set_option linter.unusedVariables false

theorem end_lost {st : List Tl} {lost skip : Int} (h : 0 < lost) : endT ⟨st, lost, skip⟩ = ⟨st, lost - 1, skip⟩ := by unfold endT; exact if_pos h
theorem end_none {st : List Tl} {lost skip : Int} (h : ¬ 0 < lost) (ha : cntA st = 0) : endT ⟨st, lost, skip⟩ = ⟨st, lost, skip⟩ := by
  unfold endT
  rw [if_neg (by exact h), if_neg]
  rw [hasA_cnt]; show ¬ 0 < cntA st; omega
theorem end_some {st : List Tl} {lost skip : Int} (h : ¬ 0 < lost) (ha : 0 < cntA st) : endT ⟨st, lost, skip⟩ = ⟨cutA st, lost, 0⟩ := by
  unfold endT
  rw [if_neg (by exact h), if_pos ((hasA_cnt _).2 ha)]
/-- What stands on top, by a stack that is known. -/
theorem WIn.topc {w : World} {W gl gc n B : Nat} {vr vs : Value} {lv cls : List Int} {al lost skip : Int} {x : Tl} {r : List Tl} (h : WIn w B W gl gc n vr vs lv cls ⟨x :: r, lost, skip⟩ al) :
    ∃ gs cap, vs = .slice (some ⟨gs, 0, none⟩) (r.length + 1) cap ∧ r.length + 1 ≤ cap ∧ w.cell? ⟨gs, r.length * 3, none⟩ = some (.int .i64 x.level) ∧ w.cell? ⟨gs, r.length * 3 + 1, none⟩ = some (.int .i64 x.side) ∧ w.cell? ⟨gs, r.length * 3 + 2, none⟩ = some (.bool x.alone) := by
  have hos := h.os
  simp only [List.length_cons] at hos
  obtain ⟨gs, cap, rfl, hgs0, hgs1, hgs2, hgs3⟩ := hos.form1 (by omega)
  have ct : ∀ j, j < 3 → w.cell? ⟨gs, r.length * 3 + j, none⟩ = (tc x)[j]? := fun j hj => by
    rw [hos.cell (r.length * 3 + j) (by omega), List.reverse_cons]
    have := tcells_last r.reverse x j
    rw [List.length_reverse] at this
    exact this
  exact ⟨gs, cap, rfl, hgs2, ct 0 (by omega), ct 1 (by omega), ct 2 (by omega)⟩

set_option maxHeartbeats 2000000 in
theorem specEnds {W gl gc n B : Nat} {vr vs : Value} {lv cls : List Int} {s : TS} (w : World) (h : WIn w B W gl gc n vr vs lv cls s (cntA s.st)) (hl : s.st.length ≤ 1001) (h0 : 0 ≤ s.lost) (h1 : s.lost ≤ 1000) (hB : B ≤ w.heap.size) :
    Calls Tryz.prog 142 #[.pointer (some ⟨W, 0, none⟩)] w fun e w' => e = .returned (.tuple #[]) ∧ (∃ vs', WIn w' B W gl gc n vr vs' lv cls (endT s) (cntA (endT s).st)) ∧ Below B w w' := by
  obtain ⟨st, lost, skip⟩ := s
  have c4 := h.c4
  have c6 := h.c6
  have f4 := h.fz 4
  have hb1 := cntA_nn st
  have hb2 := cntA_le st
  simp only at c4 c6 h0 h1 hl h
  obtain ⟨al, hal⟩ : ∃ al, cntA st = al := ⟨_, rfl⟩
  rw [hal] at c6 h hb1 hb2
  have H : Hid _ := h
  have HAL : Hid _ := hal
  by_cases hp : 0 < lost
  · rw [end_lost hp]
    have hp1 : decide (lost > 0) = true := by simpa using hp
    clear h hal
    go_enter Tryz.func142, Tryz.ntmps142
    go_wp2_with fail
    refine bodyPost_ret (results_none rfl _ _ _) rfl ?_
    exact ⟨rfl, ⟨_, by rw [HAL.out]; exact H.out.put4 (lost - 1)⟩, H.out.blw (Below.refl _ _) 4 _⟩
  · have hp1 : decide (lost > 0) = false := by simpa using hp
    have hz : lost = 0 := by omega
    subst hz
    by_cases ha : al = 0
    · rw [end_none (by omega) (by omega)]
      subst ha
      clear h hal
      go_enter Tryz.func142, Tryz.ntmps142
      go_wp2_with fail
      refine bodyPost_ret (results_none rfl _ _ _) rfl ?_
      exact ⟨rfl, ⟨_, by show WIn _ B W gl gc n vr _ lv cls ⟨st, 0, skip⟩ (cntA st); rw [HAL.out]; exact H.out⟩, Below.refl _ _⟩
    · rw [end_some (by omega) (by omega)]
      have ha1 : (al == 0) = false := by simpa using ha
      have c5 := h.c5
      have f5 := h.fz 5
      have H5 : Hid (WIn (w.setCell ⟨W, 5, none⟩ (.int .i64 0)) B W gl gc n vr vs lv cls ⟨st, 0, 0⟩ al) := h.put5 0
      have B5 : Hid (Below B w (w.setCell ⟨W, 5, none⟩ (.int .i64 0))) := h.blw (Below.refl _ _) 5 _
      clear h hal
      go_enter Tryz.func142, Tryz.ntmps142
      go_wp2_with fail
      go_loopg [] 1001 (fun g wr => ∃ (vs' : Value) (st' : List Tl), WIn wr B W gl gc n vr vs' lv cls ⟨st', 0, 0⟩ al ∧ st'.length ≤ g ∧ Hid (cntA st' = al) ∧ Hid (cutA st' = cutA st) ∧ Below B w wr ∧ g ≤ 1001)
      case atStart => exact ⟨vs, st, H5.out, hl, HAL.out, rfl, B5.out, by omega⟩
      case round =>
        obtain ⟨vs', st', hw, hlen, hc1, hc2, hbw, hg⟩ := hrel
        cases st' with
        | nil => exfalso; have := hc1.out; simp [cntA] at this; omega
        | cons x r =>
          obtain ⟨gs, cap, rfl, hcap, t0, t1, t2⟩ := hw.topc
          have hlen2 : r.length + 1 ≤ gk := by simpa using hlen
          obtain ⟨m, hm⟩ : ∃ m, r.length = m := ⟨_, rfl⟩
          rw [hm] at hlen2 hcap t2 hw
          have HM : Hid _ := hm
          have d3 := hw.c3
          have d6 := hw.c6
          have e3 := hw.fz 3
          have e6 := hw.fz 6
          have hw0 : IntKind.i64.wrap (m : Int) = (m : Int) := by rw [IntKind.wrap_i64]; omega
          have hp0 : (0 : Int) ≤ (m : Int) := by omega
          have hp1 : (m : Int) < (m : Int) + 1 := by omega
          have hp2 : (m : Int) ≤ (cap : Int) := by omega
          have HW : Hid _ := hw
          obtain ⟨xa, hxa⟩ : ∃ xa, x.alone = xa := ⟨_, rfl⟩
          rw [hxa] at t2
          have HXA : Hid _ := hxa
          clear t0 t1 hm hw hlen hxa
          have hx3 : ∀ q, WIn ((wr.drewN q).setCell ⟨W, 3, none⟩ (.slice (some ⟨gs, 0, none⟩) m cap)) B W gl gc n vr (.slice (some ⟨gs, 0, none⟩) m cap) lv cls ⟨r, 0, 0⟩ al := fun q =>
            (HW.out.drewN q).put3 (by rw [List.length_cons, HM.out]) HM.out [x] rfl
          have hx4 : ∀ q, Below B w ((wr.drewN q).setCell ⟨W, 3, none⟩ (.slice (some ⟨gs, 0, none⟩) m cap)) := fun q => (HW.out.drewN q).blw (hbw.trans ((below_draws wr q).mono (Nat.le_trans hB hbw.size))) 3 _
          have HX3 : Hid _ := hx3
          have HX4 : Hid _ := hx4
          clear hx3 hx4
          cases xa
          · go_wp2_with fail
            go_quiet (fail)
            go_wp2_with fail
            go_region
            all_goals go_wp2_with fail
            all_goals
              go_roundg (gk - 1)
              case measure => omega
              case rel =>
                refine ⟨_, r, HX3.out _, by rw [HM.out]; omega, ?_, ?_, HX4.out _, by omega⟩
                · show cntA r = al
                  have := hc1.out; simp only [cntA] at this; rw [HXA.out] at this; simpa using this
                · show cutA r = cutA st
                  rw [← hc2.out]; simp only [cutA]; rw [HXA.out]; simp
          · go_wp2_with fail
            go_quiet (fail)
            go_wp2_with fail
            go_region
            all_goals go_wp2_with fail
            all_goals
              go_end0
              have e1 : cutA st = r := by rw [← hc2.out]; simp only [cutA]; rw [HXA.out]; simp
              have e2 : cntA r = al - 1 := by
                have := hc1.out; simp only [cntA] at this; rw [HXA.out] at this; simp at this; omega
              rw [e1, e2]
              exact ⟨rfl, ⟨_, (HX3.out _).put6 (al - 1)⟩, (HX3.out _).blw (HX4.out _) 6 _⟩

theorem drop_lost {st : List Tl} {lost skip : Int} (h : 0 < lost) : dropT ⟨st, lost, skip⟩ = ⟨st, lost, skip⟩ := by unfold dropT; exact if_pos h
theorem drop_skip {st : List Tl} {lost skip : Int} (h : ¬ 0 < lost) (h2 : 0 < skip) : dropT ⟨st, lost, skip⟩ = ⟨st, lost, skip - 1⟩ := by unfold dropT; rw [if_neg (by exact h)]; exact if_pos h2
theorem drop_top {st : List Tl} {lost skip : Int} (h : ¬ 0 < lost) (h2 : ¬ 0 < skip) : dropT ⟨st, lost, skip⟩ = ⟨dropL st, lost, skip⟩ := by unfold dropT; rw [if_neg (by exact h), if_neg (by exact h2)]

set_option maxHeartbeats 2000000 in
theorem specDrops {W gl gc n B : Nat} {vr vs : Value} {lv cls : List Int} {s : TS} (w : World) (h : WIn w B W gl gc n vr vs lv cls s (cntA s.st)) (hne : ∃ x r, s.st = x :: r) (hl : s.st.length ≤ 1001) (h0 : 0 ≤ s.lost) (h1 : s.lost ≤ 1000) (h2 : 0 ≤ s.skip) (h3 : s.skip ≤ 1000) (hB : B ≤ w.heap.size) :
    Calls Tryz.prog 139 #[.pointer (some ⟨W, 0, none⟩)] w fun e w' => e = .returned (.tuple #[]) ∧ (∃ vs', WIn w' B W gl gc n vr vs' lv cls (dropT s) (cntA (dropT s).st)) ∧ Below B w w' := by
  obtain ⟨st, lost, skip⟩ := s
  obtain ⟨x, r, hx⟩ := hne
  simp only at hx h0 h1 h2 h3 hl h
  subst hx
  have c4 := h.c4
  have c5 := h.c5
  have f5 := h.fz 5
  simp only at c4 c5
  have H : Hid _ := h
  by_cases hp : 0 < lost
  · rw [drop_lost hp]
    have hp1 : decide (lost > 0) = true := by simpa using hp
    clear h
    go_enter Tryz.func139, Tryz.ntmps139
    go_wp2_with fail
    refine bodyPost_ret (results_none rfl _ _ _) rfl ?_
    exact ⟨rfl, ⟨_, H.out⟩, Below.refl _ _⟩
  · have hp1 : decide (lost > 0) = false := by simpa using hp
    by_cases hs : 0 < skip
    · rw [drop_skip hp hs]
      have hs1 : decide (skip > 0) = true := by simpa using hs
      clear h
      go_enter Tryz.func139, Tryz.ntmps139
      go_wp2_with fail
      refine bodyPost_ret (results_none rfl _ _ _) rfl ?_
      exact ⟨rfl, ⟨_, H.out.put5 (skip - 1)⟩, H.out.blw (Below.refl _ _) 5 _⟩
    · rw [drop_top hp hs]
      have hs1 : decide (skip > 0) = false := by simpa using hs
      obtain ⟨gs, cap, rfl, hcap, t0, t1, t2⟩ := h.topc
      obtain ⟨m, hm⟩ : ∃ m, r.length = m := ⟨_, rfl⟩
      have hm2 : m ≤ 1000 := by simp only [List.length_cons] at hl; omega
      rw [hm] at hcap t2 h
      have HM : Hid _ := hm
      have c3 := h.c3
      have f3 := h.fz 3
      obtain ⟨xa, hxa⟩ : ∃ xa, x.alone = xa := ⟨_, rfl⟩
      rw [hxa] at t2
      have HXA : Hid _ := hxa
      have HW : Hid _ := h
      have hw0 : IntKind.i64.wrap (m : Int) = (m : Int) := by rw [IntKind.wrap_i64]; omega
      have hp0 : (0 : Int) ≤ (m : Int) := by omega
      have hq1 : (m : Int) < (m : Int) + 1 := by omega
      have hp2 : (m : Int) ≤ (cap : Int) := by omega
      clear t0 t1 hm h H hxa hl
      cases xa
      · have hnx : (!false) = true := rfl
        cases r with
        | nil =>
          have e0 : m = 0 := HM.out.symm
          subst e0
          go_enter Tryz.func139, Tryz.ntmps139
          go_wp2_with fail
          go_quiet (fail)
          go_wp2_with fail
          go_end0
          exact ⟨rfl, ⟨_, (HW.out.drewN _)⟩, (below_draws w _).mono hB⟩
        | cons y r =>
          have hm0 : 0 < m := by rw [← HM.out]; simp
          have hmd : decide ((m : Int) + 1 > 1) = true := by simp; omega
          have hd1 : cntA (x :: y :: r) = cntA (y :: r) := by
            show (if x.alone = true then 1 else 0) + cntA (y :: r) = _; rw [HXA.out]; simp
          have hd2 : dropL (x :: y :: r) = y :: r := by
            show (if x.alone = true then x :: y :: r else y :: r) = _; rw [HXA.out]; simp
          have HD1 : Hid _ := hd1
          have hx3 : ∀ q, WIn ((w.drewN q).setCell ⟨W, 3, none⟩ (.slice (some ⟨gs, 0, none⟩) m cap)) B W gl gc n vr (.slice (some ⟨gs, 0, none⟩) m cap) lv cls ⟨y :: r, lost, skip⟩ (cntA (x :: y :: r)) := fun q =>
            (HW.out.drewN q).put3 (by rw [List.length_cons, HM.out]) HM.out [x] rfl
          have hx4 : ∀ q, Below B w ((w.drewN q).setCell ⟨W, 3, none⟩ (.slice (some ⟨gs, 0, none⟩) m cap)) := fun q => (HW.out.drewN q).blw ((below_draws w q).mono hB) 3 _
          have HX3 : Hid _ := hx3
          have HX4 : Hid _ := hx4
          rw [hd2]
          clear hx3 hx4 hd1 hd2
          go_enter Tryz.func139, Tryz.ntmps139
          go_wp2_with fail
          go_quiet (fail)
          go_wp2_with fail
          go_region
          all_goals go_wp2_with fail
          all_goals
            go_end0
            refine ⟨rfl, ⟨.slice (some ⟨gs, 0, none⟩) m cap, ?_⟩, HX4.out _⟩
            show WIn _ B W gl gc n vr _ lv cls ⟨y :: r, lost, skip⟩ (cntA (y :: r))
            rw [← HD1.out]
            exact HX3.out _
      · go_enter Tryz.func139, Tryz.ntmps139
        go_wp2_with fail
        go_quiet (fail)
        go_wp2_with fail
        go_end0
        have hd2 : dropL (x :: r) = x :: r := by
          cases r with
          | nil => rfl
          | cons y r => show (if x.alone = true then x :: y :: r else y :: r) = _; rw [HXA.out]; simp
        rw [hd2]
        exact ⟨rfl, ⟨_, (HW.out.drewN _)⟩, (below_draws w _).mono hB⟩
end Go.Proofs.YtgojdlbidjnmmaaGreat
