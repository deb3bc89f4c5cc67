import Derived.Test.YtbeecmcgdlnakaaMg13
import Derived.Test.YtbeecmcgdlnakaaMg2
import Derived.BigQuiet
import Derived.Test.YtbeecmcgdlnakaaMg8
namespace Go.Proofs.Ytbeecmcgdlnakaa
open Go.ChangeShapes Go.WideShapes Go.ChangeAt Go.RowKit
set_option linter.unusedSimpArgs false

theorem rowTold : RowT 73 3 24 := ⟨by kernel_rfl, by kernel_rfl⟩

theorem push_yes {st : List Tl} {lost skip : Int} {right : Bool} (side : Int) (alone : Bool) {u : Int} (hu : upL (topL st) right = u) (h1 : u ≤ 20) (h2 : lost = 0) (h3 : skip = 0) : pushT ⟨st, lost, skip⟩ right side alone = ⟨⟨u, side, alone⟩ :: st, lost, skip⟩ := by
  subst hu; unfold pushT; rw [if_pos ⟨h1, h2, h3⟩]
theorem push_no {st : List Tl} {lost skip : Int} {right : Bool} (side : Int) (alone : Bool) {u : Int} (hu : upL (topL st) right = u) (h : 20 < u ∨ lost ≠ 0 ∨ skip ≠ 0) : pushT ⟨st, lost, skip⟩ right side alone = if alone = true then ⟨st, lost + 1, skip⟩ else if lost = 0 then ⟨st, lost, skip + 1⟩ else ⟨st, lost, skip⟩ := by
  subst hu; unfold pushT; rw [if_neg (by show ¬ (upL (topL st) right ≤ 20 ∧ lost = 0 ∧ skip = 0); omega)]

set_option maxHeartbeats 2000000 in
theorem specPush {W gl gc n B k : Nat} {vr vs : Value} {lv cls : List Int} {s : TS} {base : Int} (w : World) (h : WIn w B W gl gc n vr vs lv cls s (cntA s.st)) (hg : GoodS base k s) (hk : k ≤ 1000) (hb0 : 0 ≤ base) (hB : B ≤ w.heap.size) (right : Bool) (side : Int) (alone : Bool) :
    Calls Try.prog 75 #[.pointer (some ⟨W, 0, none⟩), .bool right, .int .i64 side, .bool alone] w fun e w' => e = .returned (.tuple #[]) ∧ (∃ vs', WIn w' B W gl gc n vr vs' lv cls (pushT s right side alone) (cntA (pushT s right side alone).st)) ∧ Below B w w' := by
  obtain ⟨x, r, hx⟩ := good_ne hg
  obtain ⟨m, hm⟩ : ∃ m, r.length = m := ⟨_, rfl⟩
  have hlen : s.st.length = m + 1 := by rw [hx, List.length_cons, hm]
  have hm80 : m ≤ 1000 := by have := hg.len; omega
  have hos := h.os
  rw [hlen] at hos
  obtain ⟨gs, cap, rfl, hgs0, hgs1, hgs2, hgs3⟩ := hos.form1 (by omega)
  have ct : w.cell? ⟨gs, m * 3, none⟩ = some (.int .i64 x.level) := by
    rw [hos.cell (m * 3) (by omega), hx, List.reverse_cons]
    have := tcells_last r.reverse x 0
    rw [List.length_reverse, hm] at this
    exact this
  have htop : topL s.st = x.level := by rw [hx]; rfl
  have hb1 := cntA_nn s.st
  have hb2 := cntA_le s.st
  have c3 := h.c3
  have c4 := h.c4
  have c5 := h.c5
  have c6 := h.c6
  have hl0 := hg.lost0
  have hlk := hg.lostk
  have hs0 := hg.skip0
  have hsk := hg.skipk
  have hbx := (hg.le x (by rw [hx]; simp))
  have hbx1 : 0 ≤ x.level := by omega
  have hbx2 : x.level ≤ 100 := by omega
  have f3 := h.fz 3
  have f4 := h.fz 4
  have f5 := h.fz 5
  have f6 := h.fz 6
  obtain ⟨st, lost, skip⟩ := s
  simp only at c4 c5 c6 hl0 hlk hs0 hsk htop hb1 hb2 hlen hx h hos
  rw [hlen] at hb2
  obtain ⟨al, hal⟩ : ∃ al, cntA st = al := ⟨_, rfl⟩
  obtain ⟨xl, hxl⟩ : ∃ xl, x.level = xl := ⟨_, rfl⟩
  rw [hal] at hb1 hb2 c6 h
  rw [hxl] at htop ct hbx hbx1 hbx2
  obtain ⟨u, hu⟩ : ∃ u, upL xl right = u := ⟨_, rfl⟩
  have hub := upL_bd xl right
  rw [hu] at hub
  have HU : Hid (upL xl right = u) := hu
  have HS : Hid (upL (topL st) right = u) := by show _ = _; rw [htop, hu]
  have HL : Hid _ := hlen
  have H : Hid _ := h
  have HO : Hid (OwnV 73 3 w B (.slice (some ⟨gs, 0, none⟩) (m + 1) cap) (m + 1) (tcells st.reverse)) := hos
  have HAL : Hid _ := hal
  clear hx hlen h hg hos htop hu hal hxl hm hbx
  have hub1 := hub.1
  have hub2 := hub.2
  clear hub
  by_cases hV : u ≤ 20 ∧ lost = 0 ∧ skip = 0
  · obtain ⟨hu1, rfl, rfl⟩ := hV
    have HP : Hid (pushT ⟨st, 0, 0⟩ right side alone = ⟨⟨u, side, alone⟩ :: st, 0, 0⟩) := push_yes side alone HS.out hu1 rfl rfl
    have arm : ∀ W1 : World, WIn W1 B W gl gc n vr (.slice (some ⟨gs, 0, none⟩) (m + 1) cap) lv cls ⟨st, 0, 0⟩ (if alone = true then al + 1 else al) → Below B w W1 → B ≤ W1.heap.size → ∀ v' w', OwnV 73 3 w' B v' (m + 1 + 1) (tcells st.reverse ++ [.int .i64 u, .int .i64 side, .bool alone]) → W1.grownBy w' (Value.slice (some ⟨gs, 0, none⟩) (m + 1) cap).ownBlock → (v'.ownBlock = (Value.slice (some ⟨gs, 0, none⟩) (m + 1) cap).ownBlock ∨ v'.ownBlock = some (W1.heap.size + 1)) →
        (∃ g' cap', v' = .slice (some ⟨g', 0, none⟩) (m + 1 + 1) cap') ∧ w'.cell? ⟨W, 3, none⟩ = some (.slice (some ⟨gs, 0, none⟩) (m + 1) cap) ∧ w'.frozen? ⟨W, 3, none⟩ = false ∧ Hid ((∃ vs', WIn (w'.setCell ⟨W, 3, none⟩ v') B W gl gc n vr vs' lv cls (pushT ⟨st, 0, 0⟩ right side alone) (cntA (pushT ⟨st, 0, 0⟩ right side alone).st)) ∧ Below B w (w'.setCell ⟨W, 3, none⟩ v')) := by
      intro W1 h1 b1 hB1 v' w' ho hgr hv
      obtain ⟨g', cap', e', _⟩ := ho.form1 (by omega)
      have hbk := hgr.block W h1.lt (by intro e; have := (h1.ns gs rfl).1; simp [Value.ownBlock] at e; omega)
      refine ⟨⟨g', cap', e'⟩, (World.cell?_of_block (w := W1) hbk).trans h1.c3, (World.frozen?_of_block (w := W1) hbk).trans (h1.fz 3), ⟨v', ?_⟩, h1.pushBelow b1 hB1 hgr⟩
      rw [HP.out]
      have := h1.push (x := ⟨u, side, alone⟩) (vs' := v') hgr (by rw [HL.out]; exact ho) (by rcases hv with e | e; exact .inl e; exact .inr ⟨_, e, by omega⟩)
      have ec : cntA (⟨u, side, alone⟩ :: st) = (if alone = true then al + 1 else al) := by
        simp only [cntA]; rw [HAL.out]; cases alone <;> simp; omega
      show WIn _ B W gl gc n vr v' lv cls _ (cntA (⟨u, side, alone⟩ :: st))
      rw [ec]; exact this
    have ARM : Hid _ := arm
    clear arm
    cases alone
    · go_enter Try.func75, Try.ntmps75
      go_wp2_with fail
      go_quiet ((go_at_call 96; exact Calls.quiet_of_same (specUp _ _ _ (by assumption) (by assumption))))
      rw [HU.out]
      go_wp2_with (at_builtin; refine own_appendV (k := 3) (b := 24) (T := 73) (TS := 51) (.tmp 53) (.tmp 58) (by simp) rowTold Try.underlying51 (HO.out.drewN _) (by omega) (by first | exact hB | simpa using hB) (by omega) (by omega) rfl (by simp [Value.oneCell']) rfl rfl rfl rfl ?_; intro v' w' ho' hgr' hv'; obtain ⟨⟨g', cap', rfl⟩, c3', f3', R⟩ := ARM.out (w.drewN nq) (H.out.drewN nq) ((below_draws w nq).mono hB) hB _ w' ho' hgr' hv')
      refine bodyPost_ret (results_none rfl _ _ _) rfl ?_
      exact ⟨rfl, R.out⟩
    · go_enter Try.func75, Try.ntmps75
      go_wp2_with fail
      go_quiet ((go_at_call 96; exact Calls.quiet_of_same (specUp _ _ _ (by assumption) (by assumption))))
      rw [HU.out]
      have H6 : Hid (WIn ((w.drewN nq).setCell ⟨W, 6, none⟩ (.int .i64 (al + 1))) B W gl gc n vr (.slice (some ⟨gs, 0, none⟩) (m + 1) cap) lv cls ⟨st, 0, 0⟩ (al + 1)) := (H.out.drewN nq).put6 (al + 1)
      have B6 : Hid (Below B w ((w.drewN nq).setCell ⟨W, 6, none⟩ (.int .i64 (al + 1)))) := (H.out.drewN nq).blw ((below_draws w nq).mono hB) 6 _
      have O6 : Hid (OwnV 73 3 ((w.drewN nq).setCell ⟨W, 6, none⟩ (.int .i64 (al + 1))) B (.slice (some ⟨gs, 0, none⟩) (m + 1) cap) (m + 1) (tcells st.reverse)) := by have := H6.out.os; simp only at this; rwa [HL.out] at this
      have hB6 : B ≤ ((w.drewN nq).setCell ⟨W, 6, none⟩ (.int .i64 (al + 1))).heap.size := by rw [World.size_setCell]; exact hB
      have c36 := H6.out.c3
      have f36 := H6.out.fz 3
      go_wp2_with (at_builtin; refine own_appendV (k := 3) (b := 24) (T := 73) (TS := 51) (.tmp 53) (.tmp 58) (by simp) rowTold Try.underlying51 O6.out (by omega) hB6 (by omega) (by omega) rfl (by simp [Value.oneCell']) rfl rfl rfl rfl ?_; intro v' w' ho' hgr' hv'; obtain ⟨⟨g', cap', rfl⟩, c3', f3', R⟩ := ARM.out _ H6.out B6.out hB6 _ w' ho' hgr' hv')
      refine bodyPost_ret (results_none rfl _ _ _) rfl ?_
      exact ⟨rfl, R.out⟩
  · have hno : 20 < u ∨ lost ≠ 0 ∨ skip ≠ 0 := by omega
    have HP : Hid (pushT ⟨st, lost, skip⟩ right side alone = if alone = true then ⟨st, lost + 1, skip⟩ else if lost = 0 then ⟨st, lost, skip + 1⟩ else ⟨st, lost, skip⟩) := push_no side alone HS.out hno
    have key : (20 < u ∧ (decide (u ≤ 20) = false)) ∨ (u ≤ 20 ∧ decide (u ≤ 20) = true ∧ lost ≠ 0 ∧ (lost == 0) = false) ∨ (u ≤ 20 ∧ decide (u ≤ 20) = true ∧ lost = 0 ∧ skip ≠ 0 ∧ (skip == 0) = false) := by
      by_cases a : 20 < u
      · exact .inl ⟨a, by simpa using a⟩
      · by_cases b : lost = 0
        · exact .inr (.inr ⟨by omega, by simp; omega, b, by omega, by simp; omega⟩)
        · exact .inr (.inl ⟨by omega, by simp; omega, b, by simpa using b⟩)
    clear hno hV
    have fin4 : alone = true → ∀ nq, Hid ((∃ vs', WIn ((w.drewN nq).setCell ⟨W, 4, none⟩ (.int .i64 (lost + 1))) B W gl gc n vr vs' lv cls (pushT ⟨st, lost, skip⟩ right side alone) (cntA (pushT ⟨st, lost, skip⟩ right side alone).st)) ∧ Below B w ((w.drewN nq).setCell ⟨W, 4, none⟩ (.int .i64 (lost + 1)))) := fun ha nq => by
      unfold Hid
      rw [HP.out, if_pos ha]
      refine ⟨⟨.slice (some ⟨gs, 0, none⟩) (m + 1) cap, ?_⟩, (H.out.drewN nq).blw ((below_draws w nq).mono hB) 4 _⟩
      show WIn _ B W gl gc n vr _ lv cls ⟨st, lost + 1, skip⟩ (cntA st)
      rw [HAL.out]; exact (H.out.drewN nq).put4 (lost + 1)
    have fin5 : alone = false → lost = 0 → ∀ nq, Hid ((∃ vs', WIn ((w.drewN nq).setCell ⟨W, 5, none⟩ (.int .i64 (skip + 1))) B W gl gc n vr vs' lv cls (pushT ⟨st, lost, skip⟩ right side alone) (cntA (pushT ⟨st, lost, skip⟩ right side alone).st)) ∧ Below B w ((w.drewN nq).setCell ⟨W, 5, none⟩ (.int .i64 (skip + 1)))) := fun ha h0 nq => by
      unfold Hid
      rw [HP.out, if_neg (by rw [ha]; simp), if_pos h0]
      refine ⟨⟨.slice (some ⟨gs, 0, none⟩) (m + 1) cap, ?_⟩, (H.out.drewN nq).blw ((below_draws w nq).mono hB) 5 _⟩
      show WIn _ B W gl gc n vr _ lv cls ⟨st, lost, skip + 1⟩ (cntA st)
      rw [HAL.out]; exact (H.out.drewN nq).put5 (skip + 1)
    have fin0 : alone = false → lost ≠ 0 → ∀ nq, Hid ((∃ vs', WIn (w.drewN nq) B W gl gc n vr vs' lv cls (pushT ⟨st, lost, skip⟩ right side alone) (cntA (pushT ⟨st, lost, skip⟩ right side alone).st)) ∧ Below B w (w.drewN nq)) := fun ha h0 nq => by
      unfold Hid
      rw [HP.out, if_neg (by rw [ha]; simp), if_neg h0]
      refine ⟨⟨.slice (some ⟨gs, 0, none⟩) (m + 1) cap, ?_⟩, (below_draws w nq).mono hB⟩
      show WIn _ B W gl gc n vr _ lv cls ⟨st, lost, skip⟩ (cntA st)
      rw [HAL.out]; exact H.out.drewN nq
    have F4 : Hid _ := fin4
    have F5 : Hid _ := fin5
    have F0 : Hid _ := fin0
    clear fin4 fin5 fin0
    have key2 : (lost = 0 ∧ (lost == 0) = true) ∨ (lost ≠ 0 ∧ (lost == 0) = false) := by
      by_cases q : lost = 0
      · exact .inl ⟨q, by simpa using q⟩
      · exact .inr ⟨q, by simpa using q⟩
    rcases key2 with ⟨q0, q1⟩ | ⟨q0, q1⟩
    all_goals
      have Q0 : Hid _ := q0
      clear q0
      (rcases key with ⟨k1, k2⟩ | ⟨k1, k2, k3, k4⟩ | ⟨k1, k2, k3, k4, k5⟩) <;> cases alone
    all_goals first
      | (exfalso; have := Q0.out; omega)
      | (try (have K3 : Hid _ := k3; clear k3)
         go_enter Try.func75, Try.ntmps75
         go_wp2_with fail
         go_quiet ((go_at_call 96; exact Calls.quiet_of_same (specUp _ _ _ (by assumption) (by assumption))))
         rw [HU.out]
         go_wp2_with fail
         first
           | refine bodyPost_ret (results_none rfl _ _ _) rfl ?_
           | refine bodyPost_end (results_none rfl _ _ _) rfl ?_
         first
           | exact ⟨rfl, (F4.out (by simp) _).out⟩
           | exact ⟨rfl, (F5.out (by simp) Q0.out _).out⟩
           | exact ⟨rfl, (F0.out (by simp) Q0.out _).out⟩)
end Go.Proofs.Ytbeecmcgdlnakaa
namespace Go.Proofs.Ytbeecmcgdlnakaa
open Go.ChangeShapes Go.WideShapes Go.ChangeAt Go.RowKit

/-- The worlds that have grown out of one: nothing old has turned. -/
def Gr (w : World) : Type := {w' : World // Below w.heap.size w w'}
/-- A region that draws its order, whose operations read and whose calls make memory of their own: one walk of the text's order serves every order. -/
theorem wp_region_grow {P : Program} {id : Nat} {Q : Exit → Act → World → Prop} {a : Act} {w : World} {l : List Oper} (hm : P.follows .mixedOrders = true) (hB : Region.lexB .any l.toArray = true)
    (h : Nonempty (Gr w) → wpQuiet P l.toArray (fun w' => ∃ u : Gr w, w' = u.1) (fun a' => ∀ w', (∃ u : Gr w, w' = u.1) → Q .normal a' w') l a) : (Code.region id l.toArray true).wp P Q a w :=
  wp_region_quiet (C := fun w' => ∃ u : Gr w, w' = u.1) hm hB ⟨⟨w.drewN 1, below_draws w 1⟩, rfl⟩ (by simpa using h ⟨⟨w, Below.refl _ _⟩⟩)
theorem Gr.cell {w : World} {b o : Nat} {v : Value} (h : w.cell? ⟨b, o, none⟩ = some v) (hb : b < w.heap.size) (u : Gr w) : u.1.cell? ⟨b, o, none⟩ = some v := (u.2.cell (p := ⟨b, o, none⟩) hb).trans h
theorem gr_out {w w' : World} (h : ∃ u : Gr w, w' = u.1) : Below w.heap.size w w' := by
  obtain ⟨u, rfl⟩ := h; exact u.2
/-- A callee's contract, met in a world that has grown. -/
theorem Calls.grow_of {P : Program} {f : FuncId} {args : Array Value} {w : World} {u : Gr w} {v : Value}
    (h : Calls P f args u.1 fun e w' => e = .returned v ∧ Below u.1.heap.size u.1 w') : Calls P f args u.1 fun e w'' => e = .returned v ∧ ∃ m : Gr w, w'' = m.1 :=
  h.mono fun _ w' ⟨he, hb⟩ => ⟨he, ⟨w', bstep u.2 hb⟩, rfl⟩
theorem Calls.grow_of_same {P : Program} {f : FuncId} {args : Array Value} {w : World} {u : Gr w} {v : Value}
    (h : Calls P f args u.1 fun e w' => e = .returned v ∧ w' = u.1) : Calls P f args u.1 fun e w'' => e = .returned v ∧ ∃ m : Gr w, w'' = m.1 :=
  h.mono fun _ _ ⟨he, hb⟩ => ⟨he, u, hb⟩
end Go.Proofs.Ytbeecmcgdlnakaa
namespace Go.Proofs.Ytbeecmcgdlnakaa
open Go.ChangeShapes Go.WideShapes Go.ChangeAt Go.RowKit
set_option linter.unusedSimpArgs false
set_option linter.unusedVariables false

theorem step_op {c : Int} (f : Int) (s : TS) (h : c = 19 ∨ c = 20 ∨ c = 21) : stepT c f s = pushT s (rightT c f) 0 true := stepOp f s (by unfold opensB; simp; omega)
theorem step_other {c : Int} (f : Int) (s : TS) (h : ¬ (14 ≤ c ∧ c ≤ 22)) : stepT c f s = s := by
  unfold stepT
  rw [if_neg (by unfold opensB; simp; omega), if_neg (by omega), if_neg (by omega), if_neg (by omega), if_neg (by omega), if_neg (by omega), if_neg (by omega)]

set_option maxHeartbeats 8000000 in
theorem specLetter {W gl gc n B : Nat} {vs : Value} {lv cls : List Int} {s : TS} {base : Int} (b off cap : Nat) (l : List Int) (mt : Nat → Nat) (w : World) (hn : l.length = n) (hn80 : n ≤ 1000) (hb : b < B) (hat : At w b off l) (hmt : Hid (MateFn (cl l) n mt)) (i : Nat) (hi : i < n)
    (h : WIn w B W gl gc n (.slice (some ⟨b, off, none⟩) n cap) vs lv cls s (cntA s.st)) (hg : GoodS base i s) (hb0 : 0 ≤ base) (hB : B ≤ w.heap.size) :
    Calls Try.prog 54 #[.pointer (some ⟨W, 0, none⟩), .int .i64 i] w fun e w' => e = .returned (.tuple #[]) ∧ (∃ vs', WIn w' B W gl gc n (.slice (some ⟨b, off, none⟩) n cap) vs' (lvSet (cl l i) s lv i) (clSet (cl l i) s cls i) (stepT (cl l i) (sideFrom (cl l) mt (mt i) (i + 1)) s) (cntA (stepT (cl l i) (sideFrom (cl l) mt (mt i) (i + 1)) s).st)) ∧ Below B w w' := by
  have c0 := h.c0
  have hc := hat i (by omega)
  have hbw : b < w.heap.size := by omega
  have hi0 : (0 : Int) ≤ (i : Int) := by omega
  have hi1 : (i : Int) < (n : Int) := by omega
  obtain ⟨ck, hck⟩ : ∃ ck, bidi (fn l i) = ck := ⟨_, rfl⟩
  have hcl : cl l i = ck := hck
  have HCK : Hid _ := hck
  have HCL : Hid _ := hcl
  obtain ⟨fs, hfs⟩ : ∃ fs, sideFrom (cl l) mt (mt i) (i + 1) = fs := ⟨_, rfl⟩
  have HF : Hid _ := hfs
  rw [hcl, hfs]
  have H : Hid _ := h
  have HG : Hid _ := hg
  have HN : Hid _ := hn
  have hik : i ≤ 1000 := by omega
  have hlen := hg.len
  have hl0 := hg.lost0
  have hlk := hg.lostk
  have hs0 := hg.skip0
  have hsk := hg.skipk
  have hlen1 : s.st.length ≤ 1001 := by omega
  have hl1 : s.lost ≤ 1000 := by omega
  have hs1 : s.skip ≤ 1000 := by omega
  have hne := good_ne hg
  have HNE : Hid _ := hne
  clear h hg hck hcl hfs hn hne hlen hlk hsk
  -- how a push ends
  have hpush : ∀ (w1 : World) (vs1 : Value) (lv1 cls1 : List Int) (right : Bool) (side : Int) (alone : Bool), Below B w w1 → WIn w1 B W gl gc n (.slice (some ⟨b, off, none⟩) n cap) vs1 lv1 cls1 s (cntA s.st) →
      Calls Try.prog 75 #[.pointer (some ⟨W, 0, none⟩), .bool right, .int .i64 side, .bool alone] w1 fun e w' => e = .returned (.tuple #[]) ∧ (∃ vs', WIn w' B W gl gc n (.slice (some ⟨b, off, none⟩) n cap) vs' lv1 cls1 (pushT s right side alone) (cntA (pushT s right side alone).st)) ∧ Below B w w' := by
    intro w1 vs1 lv1 cls1 right side alone b1 h1
    refine (specPush w1 h1 HG.out hik hb0 (Nat.le_trans hB b1.size) right side alone).mono ?_
    rintro e w2 ⟨rfl, h2, b2⟩
    exact ⟨rfl, h2, b1.trans b2⟩
  have HP : Hid _ := hpush
  clear hpush
  have hhere : ∀ (w1 : World) (vs1 : Value) (s1 : TS) (al : Int), GoodS base i s1 → Below B w w1 → WIn w1 B W gl gc n (.slice (some ⟨b, off, none⟩) n cap) vs1 lv cls s1 al →
      Calls Try.prog 77 #[.pointer (some ⟨W, 0, none⟩), .int .i64 i, .int .i64 ck] w1 fun e w' => e = .returned (.tuple #[]) ∧ WIn w' B W gl gc n (.slice (some ⟨b, off, none⟩) n cap) vs1 (lv.set i (topL s1.st)) (cls.set i (sdT s1.st ck)) s1 al ∧ Below B w w' := by
    intro w1 vs1 s1 al g1 b1 h1
    refine (specHere w1 h1 g1 hik (Nat.le_trans hB b1.size) i hi ck).mono ?_
    rintro e w2 ⟨rfl, h2, b2⟩
    exact ⟨rfl, h2, b1.trans b2⟩
  have HH : Hid _ := hhere
  clear hhere
  by_cases q15 : ck = 15
  · subst q15
    rw [show stepT 15 fs s = pushT s true 0 false from rfl, show lvSet 15 s lv i = lv from rfl, show clSet 15 s cls i = cls from rfl]
    go_enter Try.func54, Try.ntmps54
    go_wp2_with (first | (go_at_call 13; refine (specBidi _ _).mono ?_; rintro e w1 ⟨rfl, b1⟩; rw [HCK.out]) | (go_at_call 75; refine (HP.out _ _ _ _ _ _ _ (b1.mono hB) (H.out.below b1)).mono ?_; rintro e w2 ⟨rfl, h2, b2⟩))
    go_end0
    exact ⟨rfl, h2, b2⟩
  by_cases q14 : ck = 14
  · subst q14
    rw [show stepT 14 fs s = pushT s false 0 false from rfl, show lvSet 14 s lv i = lv from rfl, show clSet 14 s cls i = cls from rfl]
    go_enter Try.func54, Try.ntmps54
    go_wp2_with (first | (go_at_call 13; refine (specBidi _ _).mono ?_; rintro e w1 ⟨rfl, b1⟩; rw [HCK.out]) | (go_at_call 75; refine (HP.out _ _ _ _ _ _ _ (b1.mono hB) (H.out.below b1)).mono ?_; rintro e w2 ⟨rfl, h2, b2⟩))
    go_end0
    exact ⟨rfl, h2, b2⟩
  by_cases q18 : ck = 18
  · subst q18
    rw [show stepT 18 fs s = pushT s true 2 false from rfl, show lvSet 18 s lv i = lv from rfl, show clSet 18 s cls i = cls from rfl]
    go_enter Try.func54, Try.ntmps54
    go_wp2_with (first | (go_at_call 13; refine (specBidi _ _).mono ?_; rintro e w1 ⟨rfl, b1⟩; rw [HCK.out]) | (go_at_call 75; refine (HP.out _ _ _ _ _ _ _ (b1.mono hB) (H.out.below b1)).mono ?_; rintro e w2 ⟨rfl, h2, b2⟩))
    go_end0
    exact ⟨rfl, h2, b2⟩
  by_cases q17 : ck = 17
  · subst q17
    rw [show stepT 17 fs s = pushT s false 1 false from rfl, show lvSet 17 s lv i = lv from rfl, show clSet 17 s cls i = cls from rfl]
    go_enter Try.func54, Try.ntmps54
    go_wp2_with (first | (go_at_call 13; refine (specBidi _ _).mono ?_; rintro e w1 ⟨rfl, b1⟩; rw [HCK.out]) | (go_at_call 75; refine (HP.out _ _ _ _ _ _ _ (b1.mono hB) (H.out.below b1)).mono ?_; rintro e w2 ⟨rfl, h2, b2⟩))
    go_end0
    exact ⟨rfl, h2, b2⟩
  by_cases q16 : ck = 16
  · subst q16
    rw [show stepT 16 fs s = dropT s from rfl, show lvSet 16 s lv i = lv from rfl, show clSet 16 s cls i = cls from rfl]
    go_enter Try.func54, Try.ntmps54
    go_wp2_with (first | (go_at_call 13; refine (specBidi _ _).mono ?_; rintro e w1 ⟨rfl, b1⟩; rw [HCK.out]) | (go_at_call 76; refine (specDrops _ (H.out.below b1) HNE.out hlen1 hl0 hl1 hs0 hs1 (Nat.le_trans hB b1.size)).mono ?_; rintro e w2 ⟨rfl, h2, b2⟩))
    go_end0
    exact ⟨rfl, h2, (b1.mono hB).trans b2⟩
  by_cases q10 : ck = 10
  · subst q10
    rw [show stepT 10 fs s = s from rfl, show lvSet 10 s lv i = lv from rfl, show clSet 10 s cls i = cls from rfl]
    go_enter Try.func54, Try.ntmps54
    go_wp2_with (first | (go_at_call 13; refine (specBidi _ _).mono ?_; rintro e w1 ⟨rfl, b1⟩; rw [HCK.out]))
    go_end0
    exact ⟨rfl, ⟨_, H.out.below b1⟩, b1.mono hB⟩
  by_cases q22 : ck = 22
  · subst q22
    rw [show stepT 22 fs s = endT s from rfl, show lvSet 22 s lv i = lv.set i (topL (endT s).st) from rfl, show clSet 22 s cls i = cls.set i (sdT (endT s).st 22) from rfl]
    go_enter Try.func54, Try.ntmps54
    go_wp2_with (first | (go_at_call 13; refine (specBidi _ _).mono ?_; rintro e w1 ⟨rfl, b1⟩; rw [HCK.out]) | (go_at_call 80; refine (specEnds _ (H.out.below b1) hlen1 hl0 hl1 (Nat.le_trans hB b1.size)).mono ?_; rintro e w2 ⟨rfl, ⟨vs2, h2⟩, b2⟩) | (go_at_call 77; refine (HH.out _ _ _ _ (good_end HG.out) ((b1.mono hB).trans b2) h2).mono ?_; rintro e w3 ⟨rfl, h3, b3⟩))
    go_end0
    exact ⟨rfl, ⟨_, h3⟩, b3⟩
  by_cases q20 : ck = 20
  · subst q20
    rw [show stepT 20 fs s = pushT s true 0 true from rfl, show lvSet 20 s lv i = lv.set i (topL s.st) from rfl, show clSet 20 s cls i = cls.set i (sdT s.st 20) from rfl]
    go_enter Try.func54, Try.ntmps54
    go_wp2_with (first | (go_at_call 13; refine (specBidi _ _).mono ?_; rintro e w1 ⟨rfl, b1⟩; rw [HCK.out]) | (go_at_call 77; refine (HH.out _ _ _ _ HG.out (b1.mono hB) (H.out.below b1)).mono ?_; rintro e w2 ⟨rfl, h2, b2⟩) | (go_at_call 75; refine (HP.out _ _ _ _ _ _ _ b2 h2).mono ?_; rintro e w3 ⟨rfl, h3, b3⟩))
    go_end0
    exact ⟨rfl, h3, b3⟩
  by_cases q19 : ck = 19
  · subst q19
    rw [show stepT 19 fs s = pushT s false 0 true from rfl, show lvSet 19 s lv i = lv.set i (topL s.st) from rfl, show clSet 19 s cls i = cls.set i (sdT s.st 19) from rfl]
    go_enter Try.func54, Try.ntmps54
    go_wp2_with (first | (go_at_call 13; refine (specBidi _ _).mono ?_; rintro e w1 ⟨rfl, b1⟩; rw [HCK.out]) | (go_at_call 77; refine (HH.out _ _ _ _ HG.out (b1.mono hB) (H.out.below b1)).mono ?_; rintro e w2 ⟨rfl, h2, b2⟩) | (go_at_call 75; refine (HP.out _ _ _ _ _ _ _ b2 h2).mono ?_; rintro e w3 ⟨rfl, h3, b3⟩))
    go_end0
    exact ⟨rfl, h3, b3⟩
  by_cases q21 : ck = 21
  · subst q21
    obtain ⟨rt, hrt⟩ : ∃ rt, (fs == 1) = rt := ⟨_, rfl⟩
    have hst : stepT 21 fs s = pushT s rt 0 true := by
      rw [step_op fs s (by omega)]
      have : rightT 21 fs = rt := by rw [← hrt]; unfold rightT; rw [Bool.eq_iff_iff]; simp
      rw [this]
    have HRT : Hid _ := hrt
    rw [hst, show lvSet 21 s lv i = lv.set i (topL s.st) from rfl, show clSet 21 s cls i = cls.set i (sdT s.st 21) from rfl]
    have hop : opensB (cl l i) = true := by rw [HCL.out]; rfl
    have hmi := mt_gt hmt.out hi hop
    have HOP : Hid _ := hop
    clear hst hrt hop
    go_enter Try.func54, Try.ntmps54
    go_wp2_with (first | (go_at_call 13; refine (specBidi _ _).mono ?_; rintro e w1 ⟨rfl, b1⟩; rw [HCK.out]) | (go_at_call 77; refine (HH.out _ _ _ _ HG.out (b1.mono hB) (H.out.below b1)).mono ?_; rintro e w2 ⟨rfl, h2, b2⟩))
    have e0 := Gr.cell h2.c0 h2.lt
    have hn4 : n ≤ 4194304 := by omega
    have hbw2 : b < w2.heap.size := Nat.lt_of_lt_of_le hbw b2.size
    have hat2 : At w2 b off l := hat.below b2 hb
    have hwi : IntKind.i64.wrap ((i : Int) + 1) = (i : Int) + 1 := by rw [IntKind.wrap_i64]; omega
    have hii : (i : Int) + 1 = ((i + 1 : Nat) : Int) := by omega
    have HII : Hid _ := hii
    clear hii
    have hGm : ∀ u : Gr w2, Calls Try.prog 79 #[.slice (some ⟨b, off, none⟩) n cap, .int .i64 (i : Int)] u.1 fun e w' => e = .returned (.int .i64 (mt i : Int)) ∧ Below u.1.heap.size u.1 w' := fun u =>
      specMateL b off cap n l mt _ i _ HN.out (Nat.lt_of_lt_of_le hbw2 u.2.size) (hat2.below u.2 hbw2) hn4 hmt rfl hi HOP.out
    have hGb : ∀ u : Gr w2, Calls Try.prog 78 #[.slice (some ⟨b, off, none⟩) n cap, .int .i64 ((i : Int) + 1), .int .i64 (mt i : Int)] u.1 fun e w' => e = .returned (.int .i64 fs) ∧ Below u.1.heap.size u.1 w' := fun u => by
      rw [← HF.out]
      exact specBaseL b off cap n l mt _ _ (i + 1) (mt i) _ HN.out (Nat.lt_of_lt_of_le hbw2 u.2.size) (hat2.below u.2 hbw2) hn4 hmt HII.out rfl (by omega) hmi.2
    have HGM : Hid _ := hGm
    have HGB : Hid _ := hGb
    clear hGm hGb
    refine wp_region_grow (by kernel_rfl) (by kernel_rfl) ?_
    intro hneGr
    repeat (go_big_quiet_step ((first
      | (go_at_call 79; exact Calls.grow_of (HGM.out _))
      | (go_at_call 78; exact Calls.grow_of (HGB.out _)))))
    refine wpQuiet_nil ?_
    intro w5 hu5
    have b5 := gr_out hu5
    clear hu5 e0
    rw [HRT.out]
    go_wp2_with (first | (go_at_call 75; refine (HP.out _ _ _ _ _ _ _ (b2.trans (b5.mono (Nat.le_trans hB b2.size))) (h2.below b5)).mono ?_; rintro e w3 ⟨rfl, h3, b3⟩))
    go_end0
    exact ⟨rfl, h3, b3⟩
  have hno : ¬ (14 ≤ ck ∧ ck ≤ 22) := by omega
  have htl : tellsB ck = false := by unfold tellsB; simp; omega
  have hel : lvSet ck s lv i = lv.set i (topL s.st) := by unfold lvSet atT; rw [if_neg (by rw [htl]; simp), if_neg q22]
  have hec : clSet ck s cls i = cls.set i (sdT s.st ck) := by unfold clSet atT; rw [if_neg (by rw [htl]; simp), if_neg q22]
  rw [step_other fs s hno, hel, hec]
  have p15 : (ck == 15) = false := by simpa using q15
  have p14 : (ck == 14) = false := by simpa using q14
  have p18 : (ck == 18) = false := by simpa using q18
  have p17 : (ck == 17) = false := by simpa using q17
  have p16 : (ck == 16) = false := by simpa using q16
  have p10 : (ck == 10) = false := by simpa using q10
  have p20 : (ck == 20) = false := by simpa using q20
  have p19 : (ck == 19) = false := by simpa using q19
  have p21 : (ck == 21) = false := by simpa using q21
  have p22 : (ck == 22) = false := by simpa using q22
  clear q10 q14 q15 q16 q17 q18 q19 q20 q21 q22 hno htl hel hec
  go_enter Try.func54, Try.ntmps54
  go_wp2_with (first | (go_at_call 13; refine (specBidi _ _).mono ?_; rintro e w1 ⟨rfl, b1⟩; rw [HCK.out]) | (go_at_call 77; refine (HH.out _ _ _ _ HG.out (b1.mono hB) (H.out.below b1)).mono ?_; rintro e w2 ⟨rfl, h2, b2⟩))
  go_end0
  exact ⟨rfl, ⟨_, h2⟩, b2⟩
end Go.Proofs.Ytbeecmcgdlnakaa
