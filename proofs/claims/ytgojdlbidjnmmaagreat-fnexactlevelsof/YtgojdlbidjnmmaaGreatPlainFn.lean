import Derived.Test.YtgojdlbidjnmmaaGreatPlainMath
import Derived.Test.YtgojdlbidjnmmaaGreatBidiD
namespace Go.Proofs.YtgojdlbidjnmmaaGreat
open Go.ChangeShapes Go.WideShapes Go.ChangeAt Go.RowKit
set_option linter.unusedSimpArgs false

set_option maxHeartbeats 1000000 in
theorem implPlain? (c : Int) (w : World) : Calls Tryz.prog 112 #[.int .i64 c] w fun e w' => e = .returned (.bool (noP c)) ∧ w' = w := by
  go_enter Tryz.func112, Tryz.ntmps112
  go_wp2
  all_goals (go_ret; refine ⟨retBool ?_, rfl⟩)
  all_goals (try simp only [beq_iff_eq, beq_eq_false_iff_ne, ne_eq, decide_eq_true_eq, decide_eq_false_iff_not] at *)
  all_goals (first | (unfold noP; simp; omega) | (unfold noP; rw [Bool.eq_iff_iff]; simp only [decide_eq_true_eq, Bool.or_eq_true, Bool.and_eq_true, beq_iff_eq]; try omega))
set_option maxHeartbeats 1000000 in
theorem implSide? (c : Int) (w : World) : Calls Tryz.prog 99 #[.int .i64 c] w fun e w' => e = .returned (.bool (sideB c)) ∧ w' = w := by
  go_enter Tryz.func99, Tryz.ntmps99
  go_wp2
  all_goals (go_ret; refine ⟨retBool ?_, rfl⟩)
  all_goals (try simp only [beq_iff_eq, beq_eq_false_iff_ne, ne_eq, decide_eq_true_eq, decide_eq_false_iff_not] at *)
  all_goals (first | (unfold sideB; simp; omega) | (unfold sideB; rw [Bool.eq_iff_iff]; simp only [decide_eq_true_eq, Bool.or_eq_true, Bool.and_eq_true, beq_iff_eq]; try omega))
set_option maxHeartbeats 1000000 in
theorem implLike (c : Int) (w : World) : Calls Tryz.prog 109 #[.int .i64 c] w fun e w' => e = .returned (.int .i64 (like c)) ∧ w' = w := by
  go_enter Tryz.func109, Tryz.ntmps109
  go_wp2
  all_goals (go_ret; refine ⟨retInt ?_, rfl⟩)
  all_goals (try simp only [beq_iff_eq, beq_eq_false_iff_ne, ne_eq, decide_eq_true_eq, decide_eq_false_iff_not] at *)
  all_goals (unfold like)
  all_goals (repeat (first | rfl | rw [if_pos (by omega)] | rw [if_neg (by omega)]))
set_option maxHeartbeats 1000000 in
theorem implOwn (c : Int) (w : World) (h0 : 0 ≤ c) : Calls Tryz.prog 66 #[.int .i64 c] w fun e w' => e = .returned (.int .i64 (ownOf c)) ∧ w' = w := by
  go_enter Tryz.func66, Tryz.ntmps66
  go_wp2
  all_goals (go_ret; refine ⟨retInt ?_, rfl⟩)
  all_goals (try simp only [beq_iff_eq, beq_eq_false_iff_ne, ne_eq, decide_eq_true_eq, decide_eq_false_iff_not] at *)
  all_goals (unfold ownOf)
  all_goals (repeat (first | rfl | rw [if_pos (by omega)] | rw [if_neg (by omega)]))
set_option maxHeartbeats 1000000 in
theorem implAmong (a b lv : Int) (w : World) (h0 : 0 ≤ lv) (r : Int) (hr : Hid (among a b lv = r)) : Calls Tryz.prog 113 #[.int .i64 a, .int .i64 b, .int .i64 lv] w fun e w' => e = .returned (.int .i64 r) ∧ w' = w := by
  obtain ⟨x, hx⟩ : ∃ x, like a = x := ⟨_, rfl⟩
  obtain ⟨y, hy⟩ : ∃ y, like b = y := ⟨_, rfl⟩
  have HX : Hid _ := hx
  have HY : Hid _ := hy
  clear hx hy
  by_cases q1 : x = 0
  · have HR : Hid (ownOf lv = r) := by show _ = _; rw [← hr.out, among, HX.out, if_pos (.inl q1)]
    subst q1
    go_enter Tryz.func113, Tryz.ntmps113
    go_wp2_with (first | (go_at_call 109; refine (implLike _ _).mono ?_; rintro e w' ⟨rfl, rfl⟩; rw [HX.out]) | (go_at_call 66; refine (implOwn _ _ h0).mono ?_; rintro e w' ⟨rfl, rfl⟩; rw [HR.out]))
    go_ret
    exact ⟨rfl, rfl⟩
  · have g1 : (x == 0) = false := by simpa using q1
    by_cases q2 : x = y
    · have HR : Hid (x = r) := by show _ = _; rw [← hr.out, among, HX.out, HY.out, if_neg (by omega)]
      have HQ : Hid _ := q2
      have g2 : (x != y) = false := by simpa using q2
      clear q2
      go_enter Tryz.func113, Tryz.ntmps113
      go_wp2_with fail
      refine (implLike _ _).mono ?_
      rintro e w' ⟨rfl, rfl⟩
      rw [HX.out]
      go_wp2_with fail
      refine (implLike _ _).mono ?_
      rintro e w' ⟨rfl, rfl⟩
      rw [HY.out]
      go_wp2_with fail
      go_ret
      exact ⟨retInt HR.out, rfl⟩
    · have HR : Hid (ownOf lv = r) := by show _ = _; rw [← hr.out, among, HX.out, HY.out, if_pos (.inr q2)]
      have g2 : (x != y) = true := by simpa using q2
      go_enter Tryz.func113, Tryz.ntmps113
      go_wp2_with fail
      refine (implLike _ _).mono ?_
      rintro e w' ⟨rfl, rfl⟩
      rw [HX.out]
      go_wp2_with fail
      refine (implLike _ _).mono ?_
      rintro e w' ⟨rfl, rfl⟩
      rw [HY.out]
      go_wp2_with fail
      refine (implOwn _ _ h0).mono ?_
      rintro e w' ⟨rfl, rfl⟩
      rw [HR.out]
      go_wp2_with fail
      go_ret
      exact ⟨rfl, rfl⟩

set_option maxHeartbeats 1000000 in
theorem specNo? (c : Int) (w : World) : Calls Tryz.prog 129 #[.int .i64 c] w fun e w' => e = .returned (.bool (noP c)) ∧ w' = w := by
  go_enter Tryz.func129, Tryz.ntmps129
  go_wp2_with (go_at_call 29; refine (specIn _ _ _ _).mono ?_; rintro e w' ⟨rfl, rfl⟩)
  all_goals (go_ret; refine ⟨retBool ?_, rfl⟩)
  all_goals (try simp only [beq_iff_eq, beq_eq_false_iff_ne, ne_eq, inB, decide_eq_true_eq, decide_eq_false_iff_not] at *)
  all_goals (first | (unfold noP; simp; omega) | (unfold noP; rw [Bool.eq_iff_iff]; simp only [decide_eq_true_eq, Bool.or_eq_true, Bool.and_eq_true, beq_iff_eq]; try omega))
set_option maxHeartbeats 1000000 in
theorem specSide? (c : Int) (w : World) : Calls Tryz.prog 131 #[.int .i64 c] w fun e w' => e = .returned (.bool (sideB c)) ∧ w' = w := by
  go_enter Tryz.func131, Tryz.ntmps131
  go_wp2
  all_goals (go_ret; refine ⟨retBool ?_, rfl⟩)
  all_goals (try simp only [beq_iff_eq, beq_eq_false_iff_ne, ne_eq, decide_eq_true_eq, decide_eq_false_iff_not] at *)
  all_goals (first | (unfold sideB; simp; omega) | (unfold sideB; rw [Bool.eq_iff_iff]; simp only [decide_eq_true_eq, Bool.or_eq_true, Bool.and_eq_true, beq_iff_eq]; try omega))
set_option maxHeartbeats 1000000 in
theorem specAs (c : Int) (w : World) : Calls Tryz.prog 130 #[.int .i64 c] w fun e w' => e = .returned (.int .i64 (asB c)) ∧ w' = w := by
  go_enter Tryz.func130, Tryz.ntmps130
  go_wp2
  all_goals (go_ret; refine ⟨retInt ?_, rfl⟩)
  all_goals (try simp only [beq_iff_eq, beq_eq_false_iff_ne, ne_eq, decide_eq_true_eq, decide_eq_false_iff_not] at *)
  all_goals (unfold asB)
  all_goals (repeat (first | rfl | rw [if_pos (by omega)] | rw [if_neg (by omega)]))
set_option maxHeartbeats 1000000 in
theorem specOwn (c : Int) (w : World) (h0 : 0 ≤ c) : Calls Tryz.prog 119 #[.int .i64 c] w fun e w' => e = .returned (.int .i64 (ownOf c)) ∧ w' = w := by
  go_enter Tryz.func119, Tryz.ntmps119
  go_wp2
  all_goals (go_ret; refine ⟨retInt ?_, rfl⟩)
  all_goals (try simp only [beq_iff_eq, beq_eq_false_iff_ne, ne_eq, decide_eq_true_eq, decide_eq_false_iff_not] at *)
  all_goals (unfold ownOf)
  all_goals (repeat (first | rfl | rw [if_pos (by omega)] | rw [if_neg (by omega)]))
end Go.Proofs.YtgojdlbidjnmmaaGreat
