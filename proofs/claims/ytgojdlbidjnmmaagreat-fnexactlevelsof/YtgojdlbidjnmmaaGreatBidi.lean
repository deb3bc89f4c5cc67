import Derived.Test.YtgojdlbidjnmmaaGreatBidiD
namespace Go.Proofs.YtgojdlbidjnmmaaGreat
open Go.ChangeShapes Go.WideShapes Go.ChangeAt Go.RowKit
set_option linter.unusedSimpArgs false

set_option maxHeartbeats 1000000 in
theorem specMoves (r : Int) (w : World) : Calls Tryz.prog 55 #[.int .i64 r] w fun e w' => e = .returned (.int .i64 (moves r)) ∧ Below w.heap.size w w' := by
  go_enter Tryz.func55, Tryz.ntmps55
  go_wp2
  go_rounds 10
  all_goals (go_ret; refine ⟨ret_int ?_, by go_grown⟩)
  all_goals (unfold moves; simp only [beq_iff_eq, beq_eq_false_iff_ne, ne_eq] at *)
  all_goals (repeat (first | rfl | rw [if_pos (by omega)] | rw [if_neg (by omega)]))

set_option maxHeartbeats 1000000 in
theorem specSigns (r : Int) (w : World) : Calls Tryz.prog 30 #[.int .i64 r] w fun e w' => e = .returned (.int .i64 (signs r)) ∧ Below w.heap.size w w' := by
  go_enter Tryz.func30, Tryz.ntmps30
  go_wp2_with (first | (go_at_call 55; refine (specMoves _ _).mono ?_; rintro e w' ⟨rfl, hw⟩) | (go_at_call 29; refine (specIn _ _ _ _).mono ?_; rintro e w' ⟨rfl, rfl⟩))
  all_goals (go_ret; refine ⟨ret_int ?_, by first | exact hw | exact Below.refl _ _⟩)
  all_goals (try simp only [beq_iff_eq, beq_eq_false_iff_ne, ne_eq, inB, decide_eq_true_eq, decide_eq_false_iff_not] at *)
  all_goals (unfold signs)
  all_goals (repeat (first | rfl | rw [if_pos (by omega)] | rw [if_neg (by omega)]))

set_option maxHeartbeats 1000000 in
theorem specBidi (r : Int) (w : World) : Calls Tryz.prog 10 #[.int .i64 r] w fun e w' => e = .returned (.int .i64 (bidi r)) ∧ Below w.heap.size w w' := by
  go_enter Tryz.func10, Tryz.ntmps10
  go_wp2_with (first | (go_at_call 30; refine (specSigns _ _).mono ?_; rintro e w' ⟨rfl, hw⟩) | (go_at_call 29; refine (specIn _ _ _ _).mono ?_; rintro e w' ⟨rfl, rfl⟩))
  all_goals (go_ret; refine ⟨ret_int ?_, by first | exact hw | exact Below.refl _ _⟩)
  all_goals (try simp only [beq_iff_eq, beq_eq_false_iff_ne, ne_eq, inB, decide_eq_true_eq, decide_eq_false_iff_not] at *)
  all_goals (unfold bidi)
  all_goals (repeat (first | rfl | rw [if_pos (by omega)] | rw [if_neg (by omega)]))
end Go.Proofs.YtgojdlbidjnmmaaGreat
