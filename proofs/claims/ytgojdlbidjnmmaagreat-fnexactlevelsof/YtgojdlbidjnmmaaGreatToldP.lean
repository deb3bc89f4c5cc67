import Derived.Test.YtgojdlbidjnmmaaGreatToldS6
import Derived.Test.YtgojdlbidjnmmaaGreatAppendAt
namespace Go.Proofs.YtgojdlbidjnmmaaGreat
open Go.ChangeShapes Go.WideShapes Go.ChangeAt Go.RowKit Go.Deep
set_option linter.unusedSimpArgs false
set_option linter.unusedVariables false

set_option maxHeartbeats 4000000 in
theorem specAll0 (a : Option Addr) (cap : Nat) (mt : Nat → Nat) (base : Int) (w : World) :
    Calls Tryz.prog 71 #[.slice a 0 cap, .int .i64 base] w fun e w' => (∃ W gl gc vs, e = .returned (.pointer (some ⟨W, 0, none⟩)) ∧ WIn w' w.heap.size W gl gc 0 (.slice a 0 cap) vs [] [] ⟨[⟨base, 0, false⟩], 0, 0⟩ 0) ∧ Below w.heap.size w w' := by
  have hmk := fun w => run_make_row' (P := Tryz.prog) 23 3 (.int .i64 0) 8 Tryz.underlying23 infoI rfl .i64 .i64 0 (by omega) (by omega) w
  simp only [Int.natCast_zero, Int.cast_ofNat_Int] at hmk
  go_enter Tryz.func71, Tryz.ntmps71
  go_upto_region 1 with fail
  go_cut [5] from 7 to 18 (fun sx wx => ∃ W gl gc vs, sx = .pointer (some ⟨W, 0, none⟩) ∧ Hid (WIn wx w.heap.size W gl gc 0 (.slice a 0 cap) vs [] [] ⟨[⟨base, 0, false⟩], 0, 0⟩ 0) ∧ Hid (Below w.heap.size w wx))
  case first =>
    go_region
    all_goals
      go_wp2_with fail
      go_meet
      refine ⟨_, _, _, _, rfl, win_made (n := 0) (by unfold maxLen; omega) (by omega) (by omega) (by omega) (by omega) (by omega) (by omega) (by omega) (by omega) (by first | exact (alloc4 w _ _ _ _).1 | exact (alloc4 w _ _ _ _).2.1 | exact (alloc4 w _ _ _ _).2.2.1) (by first | exact (alloc4 w _ _ _ _).1 | exact (alloc4 w _ _ _ _).2.1 | exact (alloc4 w _ _ _ _).2.2.1) (by first | exact (alloc4 w _ _ _ _).1 | exact (alloc4 w _ _ _ _).2.1 | exact (alloc4 w _ _ _ _).2.2.1) (alloc4 w _ _ _ _).2.2.2, ?_⟩
      exact (((((Below.refl _ w).alloc (Nat.le_refl _) _).alloc (by simp) _).alloc (by simp; omega) _).alloc (by simp; omega) _).drew
  case rest =>
    obtain ⟨W, gl, gc, vs, rfl, hw, hbw⟩ := hcut
    clear hmk
    go_wp2_with fail
    go_rounds 1
    go_ret
    exact ⟨⟨W, gl, gc, vs, rfl, hw.out⟩, hbw.out⟩

/-- What l3All tells. -/
theorem specAll_any (v : Value) (l : List Int) (mt : Nat → Nat) (base : Int) (w : World) (a : Option Addr) (cap : Nat) (hva : v = .slice a l.length cap) (hv : Arg w v l) (hn80 : l.length ≤ 1000) (hmt : Hid (MateFn (cl l) l.length mt)) (hb01 : 0 ≤ base ∧ base ≤ 1) :
    Calls Tryz.prog 71 #[v, .int .i64 base] w fun e w' => (∃ W gl gc vs s al, e = .returned (.pointer (some ⟨W, 0, none⟩)) ∧ WIn w' w.heap.size W gl gc l.length v vs (lvL (cl l) (fsF (cl l) mt) base l.length) (clL (cl l) (fsF (cl l) mt) base l.length) s al) ∧ Below w.heap.size w w' := by
  subst hva
  rcases hv with ⟨a', cap', e, rfl⟩ | ⟨b, off, cap', e, hb, hlc, hcm, hat⟩
  · refine (specAll0 a cap mt base w).mono ?_
    rintro e w1 ⟨⟨W, gl, gc, vs, rfl, h⟩, b1⟩
    exact ⟨⟨W, gl, gc, vs, _, _, rfl, h⟩, b1⟩
  · simp only [Value.slice.injEq, true_and] at e
    obtain ⟨rfl, rfl⟩ := e
    refine (specAll b off cap l.length l mt base w rfl hn80 hb hat hmt hb01).mono ?_
    rintro e w1 ⟨⟨W, gl, gc, vs, lv, cls, rfl, h, ht⟩, b1⟩
    obtain ⟨e1, e2⟩ := told_end ht
    rw [e1, e2] at h
    exact ⟨⟨W, gl, gc, vs, _, _, rfl, h⟩, b1⟩

set_option maxHeartbeats 1000000 in
theorem specOk3 (v : Value) (l : List Int) (base : Int) (w : World) (hv : Arg w v l) (hl : l.length ≤ 4194304) :
    Calls Tryz.prog 36 #[v, .int .i64 base] w fun e w' => e = .returned (.bool (okT l base)) ∧ w' = w := by
  have hvb : inB base 0 1 = baseB base := rfl
  have HV : Hid _ := hvb
  clear hvb
  obtain ⟨q, hq⟩ : ∃ q, okF (fn l) l.length = q := ⟨_, rfl⟩
  have HQ : Hid _ := hq
  have hfin : okT l base = (q && baseB base) := by unfold okT; rw [hq]
  rw [hfin]
  clear hfin hq
  cases q
  · go_enter Tryz.func36, Tryz.ntmps36
    go_wp2_with (first | (go_at_call 70; refine (specOk v l _ hv hl).mono ?_; rintro e w1 ⟨rfl, rfl⟩; rw [HQ.out]) | (go_at_call 29; refine (specIn _ _ _ _).mono ?_; rintro e w1 ⟨rfl, rfl⟩; rw [HV.out]))
    go_ret
    exact ⟨rfl, rfl⟩
  · go_enter Tryz.func36, Tryz.ntmps36
    go_wp2_with (first | (go_at_call 70; refine (specOk v l _ hv hl).mono ?_; rintro e w1 ⟨rfl, rfl⟩; rw [HQ.out]) | (go_at_call 29; refine (specIn _ _ _ _).mono ?_; rintro e w1 ⟨rfl, rfl⟩; rw [HV.out]))
    go_ret
    exact ⟨rfl, rfl⟩

end Go.Proofs.YtgojdlbidjnmmaaGreat
