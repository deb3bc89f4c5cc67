import Derived.Test.YtgojdlbidjnmmaaGreatToldS
namespace Go.Proofs.YtgojdlbidjnmmaaGreat
open Go.ChangeShapes Go.WideShapes Go.ChangeAt Go.RowKit
set_option linter.unusedSimpArgs false

theorem rowTold : RowT 105 3 24 := ⟨by kernel_rfl, by kernel_rfl⟩

theorem push_yes {st : List Tl} {lost skip : Int} {right : Bool} (side : Int) (alone : Bool) {u : Int} (hu : upL (topL st) right = u) (h1 : u ≤ 20) (h2 : lost = 0) (h3 : skip = 0) : pushT ⟨st, lost, skip⟩ right side alone = ⟨⟨u, side, alone⟩ :: st, lost, skip⟩ := by
  subst hu; unfold pushT; rw [if_pos ⟨h1, h2, h3⟩]
theorem push_no {st : List Tl} {lost skip : Int} {right : Bool} (side : Int) (alone : Bool) {u : Int} (hu : upL (topL st) right = u) (h : 20 < u ∨ lost ≠ 0 ∨ skip ≠ 0) : pushT ⟨st, lost, skip⟩ right side alone = if alone = true then ⟨st, lost + 1, skip⟩ else if lost = 0 then ⟨st, lost, skip + 1⟩ else ⟨st, lost, skip⟩ := by
  subst hu; unfold pushT; rw [if_neg (by show ¬ (upL (topL st) right ≤ 20 ∧ lost = 0 ∧ skip = 0); omega)]

set_option maxHeartbeats 2000000 in
theorem specPush {W gl gc n B k : Nat} {vr vs : Value} {lv cls : List Int} {s : TS} {base : Int} (w : World) (h : WIn w B W gl gc n vr vs lv cls s (cntA s.st)) (hg : GoodS base k s) (hk : k ≤ 1000) (hb0 : 0 ≤ base) (hB : B ≤ w.heap.size) (right : Bool) (side : Int) (alone : Bool) :
    Calls Tryz.prog 138 #[.pointer (some ⟨W, 0, none⟩), .bool right, .int .i64 side, .bool alone] w fun e w' => e = .returned (.tuple #[]) ∧ (∃ vs', WIn w' B W gl gc n vr vs' lv cls (pushT s right side alone) (cntA (pushT s right side alone).st)) ∧ Below B w w' := by
  obtain ⟨x, r, hx⟩ := good_ne hg
  obtain ⟨m, hm⟩ : ∃ m, r.length = m := ⟨_, rfl⟩
  have hlen : s.st.length = m + 1 := by rw [hx, List.length_cons, hm]
  have hm80 : m ≤ 1000 := by have := hg.len; omega
  have hos := h.os
  rw [hlen] at hos
  obtain ⟨gs, cap, rfl, hgs0, hgs1, hgs2, hgs3⟩ := hos.form1 (by omega)
  have ct : w.cell? ⟨gs, m * 3, none⟩ = some (.int .i64 x.level) := by
    rw [hos.cell (m * 3) (by omega), hx, List.reverse_cons]
    have := tcells_last r.reverse x 0
    rw [List.length_reverse, hm] at this
    exact this
  have htop : topL s.st = x.level := by rw [hx]; rfl
  have hb1 := cntA_nn s.st
  have hb2 := cntA_le s.st
  have c3 := h.c3
  have c4 := h.c4
  have c5 := h.c5
  have c6 := h.c6
  have hl0 := hg.lost0
  have hlk := hg.lostk
  have hs0 := hg.skip0
  have hsk := hg.skipk
  have hbx := (hg.le x (by rw [hx]; simp))
  have hbx1 : 0 ≤ x.level := by omega
  have hbx2 : x.level ≤ 100 := by omega
  have f3 := h.fz 3
  have f4 := h.fz 4
  have f5 := h.fz 5
  have f6 := h.fz 6
  obtain ⟨st, lost, skip⟩ := s
  simp only at c4 c5 c6 hl0 hlk hs0 hsk htop hb1 hb2 hlen hx h hos
  rw [hlen] at hb2
  obtain ⟨al, hal⟩ : ∃ al, cntA st = al := ⟨_, rfl⟩
  obtain ⟨xl, hxl⟩ : ∃ xl, x.level = xl := ⟨_, rfl⟩
  rw [hal] at hb1 hb2 c6 h
  rw [hxl] at htop ct hbx hbx1 hbx2
  obtain ⟨u, hu⟩ : ∃ u, upL xl right = u := ⟨_, rfl⟩
  have hub := upL_bd xl right
  rw [hu] at hub
  have HU : Hid (upL xl right = u) := hu
  have HS : Hid (upL (topL st) right = u) := by show _ = _; rw [htop, hu]
  have HL : Hid _ := hlen
  have H : Hid _ := h
  have HO : Hid (OwnV 105 3 w B (.slice (some ⟨gs, 0, none⟩) (m + 1) cap) (m + 1) (tcells st.reverse)) := hos
  have HAL : Hid _ := hal
  clear hx hlen h hg hos htop hu hal hxl hm hbx
  have hub1 := hub.1
  have hub2 := hub.2
  clear hub
  by_cases hV : u ≤ 20 ∧ lost = 0 ∧ skip = 0
  · obtain ⟨hu1, rfl, rfl⟩ := hV
    have HP : Hid (pushT ⟨st, 0, 0⟩ right side alone = ⟨⟨u, side, alone⟩ :: st, 0, 0⟩) := push_yes side alone HS.out hu1 rfl rfl
    have arm : ∀ W1 : World, WIn W1 B W gl gc n vr (.slice (some ⟨gs, 0, none⟩) (m + 1) cap) lv cls ⟨st, 0, 0⟩ (if alone = true then al + 1 else al) → Below B w W1 → B ≤ W1.heap.size → ∀ v' w', OwnV 105 3 w' B v' (m + 1 + 1) (tcells st.reverse ++ [.int .i64 u, .int .i64 side, .bool alone]) → W1.grownBy w' (Value.slice (some ⟨gs, 0, none⟩) (m + 1) cap).ownBlock → (v'.ownBlock = (Value.slice (some ⟨gs, 0, none⟩) (m + 1) cap).ownBlock ∨ v'.ownBlock = some (W1.heap.size + 1)) →
        (∃ g' cap', v' = .slice (some ⟨g', 0, none⟩) (m + 1 + 1) cap') ∧ w'.cell? ⟨W, 3, none⟩ = some (.slice (some ⟨gs, 0, none⟩) (m + 1) cap) ∧ w'.frozen? ⟨W, 3, none⟩ = false ∧ Hid ((∃ vs', WIn (w'.setCell ⟨W, 3, none⟩ v') B W gl gc n vr vs' lv cls (pushT ⟨st, 0, 0⟩ right side alone) (cntA (pushT ⟨st, 0, 0⟩ right side alone).st)) ∧ Below B w (w'.setCell ⟨W, 3, none⟩ v')) := by
      intro W1 h1 b1 hB1 v' w' ho hgr hv
      obtain ⟨g', cap', e', _⟩ := ho.form1 (by omega)
      have hbk := hgr.block W h1.lt (by intro e; have := (h1.ns gs rfl).1; simp [Value.ownBlock] at e; omega)
      refine ⟨⟨g', cap', e'⟩, (World.cell?_of_block (w := W1) hbk).trans h1.c3, (World.frozen?_of_block (w := W1) hbk).trans (h1.fz 3), ⟨v', ?_⟩, h1.pushBelow b1 hB1 hgr⟩
      rw [HP.out]
      have := h1.push (x := ⟨u, side, alone⟩) (vs' := v') hgr (by rw [HL.out]; exact ho) (by rcases hv with e | e; exact .inl e; exact .inr ⟨_, e, by omega⟩)
      have ec : cntA (⟨u, side, alone⟩ :: st) = (if alone = true then al + 1 else al) := by
        simp only [cntA]; rw [HAL.out]; cases alone <;> simp; omega
      show WIn _ B W gl gc n vr v' lv cls _ (cntA (⟨u, side, alone⟩ :: st))
      rw [ec]; exact this
    have ARM : Hid _ := arm
    clear arm
    cases alone
    · go_enter Tryz.func138, Tryz.ntmps138
      go_wp2_with fail
      go_quiet ((go_at_call 154; exact Calls.quiet_of_same (specUp _ _ _ (by assumption) (by assumption))))
      rw [HU.out]
      go_wp2_with (at_builtin; refine own_appendV (k := 3) (b := 24) (T := 105) (TS := 83) (.tmp 53) (.tmp 58) (by simp) rowTold Tryz.underlying83 (HO.out.drewN _) (by omega) (by first | exact hB | simpa using hB) (by omega) (by omega) rfl (by simp [Value.oneCell']) rfl rfl rfl rfl ?_; intro v' w' ho' hgr' hv'; obtain ⟨⟨g', cap', rfl⟩, c3', f3', R⟩ := ARM.out (w.drewN nq) (H.out.drewN nq) ((below_draws w nq).mono hB) hB _ w' ho' hgr' hv')
      refine bodyPost_ret (results_none rfl _ _ _) rfl ?_
      exact ⟨rfl, R.out⟩
    · go_enter Tryz.func138, Tryz.ntmps138
      go_wp2_with fail
      go_quiet ((go_at_call 154; exact Calls.quiet_of_same (specUp _ _ _ (by assumption) (by assumption))))
      rw [HU.out]
      have H6 : Hid (WIn ((w.drewN nq).setCell ⟨W, 6, none⟩ (.int .i64 (al + 1))) B W gl gc n vr (.slice (some ⟨gs, 0, none⟩) (m + 1) cap) lv cls ⟨st, 0, 0⟩ (al + 1)) := (H.out.drewN nq).put6 (al + 1)
      have B6 : Hid (Below B w ((w.drewN nq).setCell ⟨W, 6, none⟩ (.int .i64 (al + 1)))) := (H.out.drewN nq).blw ((below_draws w nq).mono hB) 6 _
      have O6 : Hid (OwnV 105 3 ((w.drewN nq).setCell ⟨W, 6, none⟩ (.int .i64 (al + 1))) B (.slice (some ⟨gs, 0, none⟩) (m + 1) cap) (m + 1) (tcells st.reverse)) := by have := H6.out.os; simp only at this; rwa [HL.out] at this
      have hB6 : B ≤ ((w.drewN nq).setCell ⟨W, 6, none⟩ (.int .i64 (al + 1))).heap.size := by rw [World.size_setCell]; exact hB
      have c36 := H6.out.c3
      have f36 := H6.out.fz 3
      go_wp2_with (at_builtin; refine own_appendV (k := 3) (b := 24) (T := 105) (TS := 83) (.tmp 53) (.tmp 58) (by simp) rowTold Tryz.underlying83 O6.out (by omega) hB6 (by omega) (by omega) rfl (by simp [Value.oneCell']) rfl rfl rfl rfl ?_; intro v' w' ho' hgr' hv'; obtain ⟨⟨g', cap', rfl⟩, c3', f3', R⟩ := ARM.out _ H6.out B6.out hB6 _ w' ho' hgr' hv')
      refine bodyPost_ret (results_none rfl _ _ _) rfl ?_
      exact ⟨rfl, R.out⟩
  · have hno : 20 < u ∨ lost ≠ 0 ∨ skip ≠ 0 := by omega
    have HP : Hid (pushT ⟨st, lost, skip⟩ right side alone = if alone = true then ⟨st, lost + 1, skip⟩ else if lost = 0 then ⟨st, lost, skip + 1⟩ else ⟨st, lost, skip⟩) := push_no side alone HS.out hno
    have key : (20 < u ∧ (decide (u ≤ 20) = false)) ∨ (u ≤ 20 ∧ decide (u ≤ 20) = true ∧ lost ≠ 0 ∧ (lost == 0) = false) ∨ (u ≤ 20 ∧ decide (u ≤ 20) = true ∧ lost = 0 ∧ skip ≠ 0 ∧ (skip == 0) = false) := by
      by_cases a : 20 < u
      · exact .inl ⟨a, by simpa using a⟩
      · by_cases b : lost = 0
        · exact .inr (.inr ⟨by omega, by simp; omega, b, by omega, by simp; omega⟩)
        · exact .inr (.inl ⟨by omega, by simp; omega, b, by simpa using b⟩)
    clear hno hV
    have fin4 : alone = true → ∀ nq, Hid ((∃ vs', WIn ((w.drewN nq).setCell ⟨W, 4, none⟩ (.int .i64 (lost + 1))) B W gl gc n vr vs' lv cls (pushT ⟨st, lost, skip⟩ right side alone) (cntA (pushT ⟨st, lost, skip⟩ right side alone).st)) ∧ Below B w ((w.drewN nq).setCell ⟨W, 4, none⟩ (.int .i64 (lost + 1)))) := fun ha nq => by
      unfold Hid
      rw [HP.out, if_pos ha]
      refine ⟨⟨.slice (some ⟨gs, 0, none⟩) (m + 1) cap, ?_⟩, (H.out.drewN nq).blw ((below_draws w nq).mono hB) 4 _⟩
      show WIn _ B W gl gc n vr _ lv cls ⟨st, lost + 1, skip⟩ (cntA st)
      rw [HAL.out]; exact (H.out.drewN nq).put4 (lost + 1)
    have fin5 : alone = false → lost = 0 → ∀ nq, Hid ((∃ vs', WIn ((w.drewN nq).setCell ⟨W, 5, none⟩ (.int .i64 (skip + 1))) B W gl gc n vr vs' lv cls (pushT ⟨st, lost, skip⟩ right side alone) (cntA (pushT ⟨st, lost, skip⟩ right side alone).st)) ∧ Below B w ((w.drewN nq).setCell ⟨W, 5, none⟩ (.int .i64 (skip + 1)))) := fun ha h0 nq => by
      unfold Hid
      rw [HP.out, if_neg (by rw [ha]; simp), if_pos h0]
      refine ⟨⟨.slice (some ⟨gs, 0, none⟩) (m + 1) cap, ?_⟩, (H.out.drewN nq).blw ((below_draws w nq).mono hB) 5 _⟩
      show WIn _ B W gl gc n vr _ lv cls ⟨st, lost, skip + 1⟩ (cntA st)
      rw [HAL.out]; exact (H.out.drewN nq).put5 (skip + 1)
    have fin0 : alone = false → lost ≠ 0 → ∀ nq, Hid ((∃ vs', WIn (w.drewN nq) B W gl gc n vr vs' lv cls (pushT ⟨st, lost, skip⟩ right side alone) (cntA (pushT ⟨st, lost, skip⟩ right side alone).st)) ∧ Below B w (w.drewN nq)) := fun ha h0 nq => by
      unfold Hid
      rw [HP.out, if_neg (by rw [ha]; simp), if_neg h0]
      refine ⟨⟨.slice (some ⟨gs, 0, none⟩) (m + 1) cap, ?_⟩, (below_draws w nq).mono hB⟩
      show WIn _ B W gl gc n vr _ lv cls ⟨st, lost, skip⟩ (cntA st)
      rw [HAL.out]; exact H.out.drewN nq
    have F4 : Hid _ := fin4
    have F5 : Hid _ := fin5
    have F0 : Hid _ := fin0
    clear fin4 fin5 fin0
    have key2 : (lost = 0 ∧ (lost == 0) = true) ∨ (lost ≠ 0 ∧ (lost == 0) = false) := by
      by_cases q : lost = 0
      · exact .inl ⟨q, by simpa using q⟩
      · exact .inr ⟨q, by simpa using q⟩
    rcases key2 with ⟨q0, q1⟩ | ⟨q0, q1⟩
    all_goals
      have Q0 : Hid _ := q0
      clear q0
      (rcases key with ⟨k1, k2⟩ | ⟨k1, k2, k3, k4⟩ | ⟨k1, k2, k3, k4, k5⟩) <;> cases alone
    all_goals first
      | (exfalso; have := Q0.out; omega)
      | (try (have K3 : Hid _ := k3; clear k3)
         go_enter Tryz.func138, Tryz.ntmps138
         go_wp2_with fail
         go_quiet ((go_at_call 154; exact Calls.quiet_of_same (specUp _ _ _ (by assumption) (by assumption))))
         rw [HU.out]
         go_wp2_with fail
         first
           | refine bodyPost_ret (results_none rfl _ _ _) rfl ?_
           | refine bodyPost_end (results_none rfl _ _ _) rfl ?_
         first
           | exact ⟨rfl, (F4.out (by simp) _).out⟩
           | exact ⟨rfl, (F5.out (by simp) Q0.out _).out⟩
           | exact ⟨rfl, (F0.out (by simp) Q0.out _).out⟩)
end Go.Proofs.YtgojdlbidjnmmaaGreat
