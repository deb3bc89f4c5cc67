import Derived.Test.YtbjcdogbhnadkavLineHitI
namespace Go.Proofs.Ytbjcdogbhnadkav
open Go.ChangeShapes Go.WideShapes Go.ChangeAt Go.RowKit
set_option linter.unusedSimpArgs false

theorem hitBool (p : Bool) (v : Int) : (p != odd2 v) = (p == (v.tmod 2 == 0)) := by
  unfold odd2; cases p <;> cases (v.tmod 2 == 0) <;> rfl

set_option maxHeartbeats 4000000 in
theorem specHitIn (f t d : Int) (v : Value) (n : Nat) (l : List Int) (x : Int) (w : World) (hv : ArgG w v n l) (h80 : n ≤ 80) (hx : in1 x (-40000) 40000 = true) (hall : Hid (∀ k, k < n → glyOk (fn l) k = true)) (r : Int × Bool) (hr : Hid (hitAns (fn l) n f x = r)) :
    Calls Try.prog 42 #[.agg #[.int .i64 f, .int .i64 t, .int .i64 d, v], .int .i64 x] w fun e w' => e = .returned (.tuple #[.int .i64 r.1, .bool r.2]) ∧ Below w.heap.size w w' := by
  have hxb : -40000 ≤ x ∧ x ≤ 40000 := by simpa [in1] using hx
  have h81 : (n : Int) ≤ 80 := by omega
  clear hx
  rcases hv with ⟨a, cap, rfl, rfl⟩ | ⟨b, cap, rfl, hb, hlc, hcm, hat⟩
  · have HR : Hid (r = (f, false)) := by show _ = _; rw [← hr.out]; exact hitAns_none (by simp [hitF])
    go_enter Try.func42, Try.ntmps42
    go_wp2_with fail
    go_rounds 1
    go_ret2
    exact ⟨retIB HR.out, by go_grown⟩
  · have HA : Hid _ := hat
    clear hat
    go_enter Try.func42, Try.ntmps42
    go_wp2_with fail
    go_loopw [6, 7] (fun h i wr => ∃ (k : Nat), k ≤ n ∧ i = .int .i64 k ∧ h = .int .i64 (hitF (fn l) x k) ∧ Below w.heap.size w wr ∧ Hid (w.heap.size < wr.heap.size) ∧ wr.cell? ⟨w.heap.size, 0, none⟩ = some (.int .i64 f) ∧ wr.cell? ⟨w.heap.size, 3, none⟩ = some (.slice (some ⟨b, 0, none⟩) n cap)) (fun _ i _ => n - (intOf i).toNat)
    case atStart => exact ⟨0, Nat.zero_le _, rfl, rfl, below_alloc _ _, by show _ < _; simp, by simp, by simp⟩
    case round =>
      obtain ⟨k, hk, rfl, rfl, hbel, hnew, hl0, hl3⟩ := hrel
      have hsz := hbel.size
      by_cases hlt : k < n
      · have c0 := (hbel.cell (p := ⟨b, k * 5, none⟩) hb).trans (HA.out _ (by omega))
        have c1 := (hbel.cell (p := ⟨b, k * 5 + 1, none⟩) hb).trans (HA.out _ (by omega))
        have c2 := (hbel.cell (p := ⟨b, k * 5 + 2, none⟩) hb).trans (HA.out _ (by omega))
        have c3 := (hbel.cell (p := ⟨b, k * 5 + 3, none⟩) hb).trans (HA.out _ (by omega))
        have c4 := (hbel.cell (p := ⟨b, k * 5 + 4, none⟩) hb).trans (HA.out _ (by omega))
        have K0 : Hid (∀ o, (wr.alloc o).cell? ⟨w.heap.size, 0, none⟩ = some (.int .i64 f)) := fun o => ((below_alloc wr o).cell (p := ⟨w.heap.size, 0, none⟩) hnew.out).trans hl0
        have K3 : Hid (∀ o, (wr.alloc o).cell? ⟨w.heap.size, 3, none⟩ = some (.slice (some ⟨b, 0, none⟩) n cap)) := fun o => ((below_alloc wr o).cell (p := ⟨w.heap.size, 3, none⟩) hnew.out).trans hl3
        have KN : Hid (∀ o, Hid (w.heap.size < (wr.alloc o).heap.size)) := fun o => by have := hnew.out; show _ < _; simp; omega
        by_cases hq : 0 < fn l (k * 5 + 3) ∧ (hitF (fn l) x k < 0 ∨ fn l (k * 5 + 2) ≤ x)
        · have HH : Hid (hitF (fn l) x (k + 1) = (k : Int)) := hitF_yes hq
          obtain ⟨q1, q2⟩ := hq
          by_cases q3 : hitF (fn l) x k < 0
          · clear q2
            go_wp2_with fail
            exact ⟨⟨k + 1, by omega, by go_num, by rw [HH.out], hbel.alloc hsz _, KN.out _, K0.out _, K3.out _⟩, by simp only [intOf]; omega⟩
          · have q4 : fn l (k * 5 + 2) ≤ x := by omega
            clear q2
            go_wp2_with fail
            exact ⟨⟨k + 1, by omega, by go_num, by rw [HH.out], hbel.alloc hsz _, KN.out _, K0.out _, K3.out _⟩, by simp only [intOf]; omega⟩
        · have HH : Hid (hitF (fn l) x (k + 1) = hitF (fn l) x k) := hitF_no hq
          by_cases q1 : 0 < fn l (k * 5 + 3)
          · have q3 : ¬ hitF (fn l) x k < 0 := by omega
            have q4 : ¬ fn l (k * 5 + 2) ≤ x := by omega
            clear hq
            go_wp2_with fail
            exact ⟨⟨k + 1, by omega, by go_num, by rw [HH.out], hbel.alloc hsz _, KN.out _, K0.out _, K3.out _⟩, by simp only [intOf]; omega⟩
          · clear hq
            go_wp2_with fail
            exact ⟨⟨k + 1, by omega, by go_num, by rw [HH.out], hbel.alloc hsz _, KN.out _, K0.out _, K3.out _⟩, by simp only [intOf]; omega⟩
      · have e : k = n := by omega
        subst e
        by_cases hq : hitF (fn l) x k < 0
        · have HR2 : Hid (r = (f, false)) := by show _ = _; rw [← hr.out]; exact hitAns_none hq
          go_wp2_with fail
          go_ret2
          exact ⟨retIB HR2.out, hbel⟩
        · obtain ⟨hm0, hm1⟩ := hitF_lt (fn l) x k
          obtain ⟨m, hm⟩ : ∃ m : Nat, hitF (fn l) x k = (m : Int) := ⟨(hitF (fn l) x k).toNat, by omega⟩
          have hmk : m < k := by omega
          have HR2 : Hid _ := hr.out.symm.trans (hitAns_at (fr := f) hm)
          have hgb := glyOk_out (hall.out m hmk)
          rw [hm]
          clear hm hm0 hm1 hq
          have c0 := (hbel.cell (p := ⟨b, m * 5, none⟩) hb).trans (HA.out _ (by omega))
          have c1 := (hbel.cell (p := ⟨b, m * 5 + 1, none⟩) hb).trans (HA.out _ (by omega))
          have c2 := (hbel.cell (p := ⟨b, m * 5 + 2, none⟩) hb).trans (HA.out _ (by omega))
          have c3 := (hbel.cell (p := ⟨b, m * 5 + 3, none⟩) hb).trans (HA.out _ (by omega))
          have c4 := (hbel.cell (p := ⟨b, m * 5 + 4, none⟩) hb).trans (HA.out _ (by omega))
          go_wp2_with fail
          go_quiet (fail)
          go_wp2_with fail
          go_ret2
          exact ⟨retIB (HR2.out.trans (by rw [hitBool])), bstep (bstep hbel (below_alloc _ _)) (below_draws _ _)⟩

set_option maxHeartbeats 4000000 in
theorem specHit (f t d : Int) (v : Value) (n : Nat) (l : List Int) (x : Int) (w : World) (hv : ArgG w v n l) (r : Int × Bool) (hr : Hid (lineHit (fn l) n f x = r)) :
    Calls Try.prog 19 #[.agg #[.int .i64 f, .int .i64 t, .int .i64 d, v], .int .i64 x] w fun e w' => e = .returned (.tuple #[.int .i64 r.1, .bool r.2]) ∧ Below w.heap.size w w' := by
  by_cases h80 : 80 < n
  · have e : r = (0, false) := by rw [← hr.out]; exact lineHit_long h80
    subst e
    have h81 : (80 : Int) < (n : Int) := by omega
    rcases hv with ⟨a, cap, rfl, rfl⟩ | ⟨b, cap, rfl, hb, hlc, hcm, hat⟩
    · omega
    · clear hat
      go_enter Try.func19, Try.ntmps19
      go_wp2_with fail
      go_ret2
      exact ⟨rfl, by go_grown⟩
  · have h81 : (n : Int) ≤ 80 := by omega
    by_cases hx : in1 x (-40000) 40000 = true
    · have HX : Hid _ := hx
      have hv0 := hv
      rcases hv with ⟨a, cap, rfl, rfl⟩ | ⟨b, cap, rfl, hb, hlc, hcm, hat⟩
      · have HR : Hid (hitAns (fn l) 0 f x = r) := by show _ = _; rw [← hr.out, lineHit_is (by omega) hx (fun k hk => by omega)]
        go_enter Try.func19, Try.ntmps19
        go_wp2_with fail
        refine (specIn1 _ _ _ _).mono ?_
        rintro e w1 ⟨rfl, rfl⟩
        rw [HX.out]
        go_wp2_with fail
        go_loop [6] (fun i => i = .int .i64 0) (fun _ => 0)
        case atStart => rfl
        case round =>
          subst hrel
          go_wp2_with fail
          refine (specHitIn f t d _ 0 l x _ (hv0.below (below_alloc _ _)) (by omega) HX.out (fun k hk => by omega) r HR).mono ?_
          rintro e w2 ⟨rfl, b2⟩
          go_wp2_with fail
          go_ret2
          exact ⟨rfl, bstep (below_alloc _ _) b2⟩
      · have HA : Hid _ := hat
        have HV : Hid _ := hv0
        clear hat hx hv0
        go_enter Try.func19, Try.ntmps19
        go_wp2_with fail
        refine (specIn1 _ _ _ _).mono ?_
        rintro e w1 ⟨rfl, rfl⟩
        rw [HX.out]
        go_wp2_with fail
        have q0 : ∀ o, (w.alloc o).cell? ⟨b, 0, none⟩ = w.cell? ⟨b, 0, none⟩ := fun o => (below_alloc w o).cell (p := ⟨b, 0, none⟩) hb
        clear q0
        go_loop [6] (fun i => ∃ (k : Nat), k ≤ n ∧ i = .int .i64 k ∧ Hid (∀ j, j < k → glyOk (fn l) j = true)) (fun i => n - (intOf i).toNat)
        case atStart => exact ⟨0, Nat.zero_le _, rfl, fun j hj => by omega⟩
        case round =>
          obtain ⟨k, hk, rfl, hall⟩ := hrel
          by_cases hlt : k < n
          · have c2 := fun o => ((below_alloc w o).cell (p := ⟨b, k * 5 + 2, none⟩) hb).trans (HA.out _ (by omega))
            have c3 := fun o => ((below_alloc w o).cell (p := ⟨b, k * 5 + 3, none⟩) hb).trans (HA.out _ (by omega))
            by_cases g1 : in1 (fn l (k * 5 + 2)) (-40000) 40000 = true
            · by_cases g2 : in1 (fn l (k * 5 + 3)) 0 20000 = true
              · have HG : Hid _ := glyOk_yes g1 g2
                have G1 : Hid _ := g1
                have G2 : Hid _ := g2
                clear g1 g2
                go_wp2_with fail
                refine (specIn1_is _ _ _ _ _ G1).mono ?_
                rintro e w1 ⟨rfl, rfl⟩
                go_wp2_with fail
                refine (specIn1_is _ _ _ _ _ G2).mono ?_
                rintro e w1 ⟨rfl, rfl⟩
                go_wp2_with fail
                refine ⟨⟨k + 1, by omega, by go_num, fun j hj => ?_⟩, by simp only [intOf]; omega⟩
                by_cases e : j = k
                · subst e; exact HG.out
                · exact hall.out j (by omega)
              · have g3 : in1 (fn l (k * 5 + 3)) 0 20000 = false := by simpa using g2
                have HR : Hid (r = (0, false)) := by show _ = _; rw [← hr.out]; exact lineHit_bad hlt (glyOk_no2 g3)
                have G1 : Hid _ := g1
                have G2 : Hid _ := g3
                clear g1 g2 g3
                go_wp2_with fail
                refine (specIn1_is _ _ _ _ _ G1).mono ?_
                rintro e w1 ⟨rfl, rfl⟩
                go_wp2_with fail
                refine (specIn1_is _ _ _ _ _ G2).mono ?_
                rintro e w1 ⟨rfl, rfl⟩
                go_wp2_with fail
                go_ret2
                exact ⟨retIB HR.out, below_alloc _ _⟩
            · have g3 : in1 (fn l (k * 5 + 2)) (-40000) 40000 = false := by simpa using g1
              have HR : Hid (r = (0, false)) := by show _ = _; rw [← hr.out]; exact lineHit_bad hlt (glyOk_no1 g3)
              have G1 : Hid _ := g3
              clear g1 g3
              go_wp2_with fail
              refine (specIn1_is _ _ _ _ _ G1).mono ?_
              rintro e w1 ⟨rfl, rfl⟩
              go_wp2_with fail
              go_ret2
              exact ⟨retIB HR.out, below_alloc _ _⟩
          · have e : k = n := by omega
            subst e
            have HR : Hid (hitAns (fn l) k f x = r) := by show _ = _; rw [← hr.out, lineHit_is (by omega) HX.out hall.out]
            go_wp2_with fail
            refine (specHitIn f t d _ k l x _ (ArgG.below HV.out (below_alloc _ _)) (by omega) HX.out hall r HR).mono ?_
            rintro e w2 ⟨rfl, b2⟩
            go_wp2_with fail
            go_ret2
            exact ⟨rfl, bstep (below_alloc _ _) b2⟩
    · have hx1 : in1 x (-40000) 40000 = false := by simpa using hx
      have HR : Hid (r = (0, false)) := by show _ = _; rw [← hr.out]; exact lineHit_x hx1
      have HX : Hid _ := hx1
      clear hx hx1
      rcases hv with ⟨a, cap, rfl, rfl⟩ | ⟨b, cap, rfl, hb, hlc, hcm, hat⟩
      all_goals
        go_enter Try.func19, Try.ntmps19
        go_wp2_with fail
        refine (specIn1 _ _ _ _).mono ?_
        rintro e w1 ⟨rfl, rfl⟩
        rw [HX.out]
        go_wp2_with fail
        go_ret2
        exact ⟨retIB HR.out, by go_grown⟩
end Go.Proofs.Ytbjcdogbhnadkav
