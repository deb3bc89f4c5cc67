import Derived.Test.YtfdmldbcblddlaaLineMath
import Derived.Test.YtfdmldbcblddlaaBidiImpl
namespace Go.Proofs.Ytfdmldbcblddlaa
open Go.ChangeShapes Go.WideShapes Go.ChangeAt Go.RowKit
set_option linter.unusedSimpArgs false

set_option maxHeartbeats 2000000 in
theorem implRange' (r c : Int) (hc : Hid (bidi r = c)) (w : World) : Calls Try.prog 83 #[.int .i64 r] w fun e w' => e = .returned (.int .i64 (lineR c r)) ∧ Below w.heap.size w w' := by
  go_enter Try.func83, Try.ntmps83
  go_wp2_with (go_at_call 42; refine (implBidi _ _).mono ?_; rintro e w' ⟨rfl, hw⟩; rw [hc.out])
  all_goals (go_ret; refine ⟨ret_int ?_, by first | exact hw | exact Below.refl _ _⟩)
  all_goals (try simp only [beq_iff_eq, beq_eq_false_iff_ne, ne_eq, decide_eq_true_eq, decide_eq_false_iff_not] at *)
  all_goals (unfold lineR)
  all_goals (repeat (first | rfl | rw [if_pos (by omega)] | rw [if_neg (by omega)]))

set_option maxHeartbeats 4000000 in
theorem implLine (r : Int) (w : World) : Calls Try.prog 58 #[.int .i64 r] w fun e w' => e = .returned (.int .i64 (lineI r)) ∧ Below w.heap.size w w' := by
  go_enter Try.func58, Try.ntmps58
  go_wp2_with (go_at_call 83; refine (implRange' _ _ rfl _).mono ?_; rintro e w' ⟨rfl, hw⟩)
  all_goals (go_ret; refine ⟨ret_int ?_, by first | exact hw | exact Below.refl _ _⟩)
  all_goals (try simp only [beq_iff_eq, beq_eq_false_iff_ne, ne_eq, decide_eq_true_eq, decide_eq_false_iff_not] at *)
  all_goals (unfold lineI)
  all_goals (repeat (first | rfl | rw [if_pos (by omega)] | rw [if_neg (by omega)]))

set_option maxHeartbeats 2000000 in
theorem specLineSigns (r : Int) (w : World) : Calls Try.prog 91 #[.int .i64 r] w fun e w' => e = .returned (.int .i64 (lineG r)) ∧ w' = w := by
  go_enter Try.func91, Try.ntmps91
  go_wp2
  all_goals (go_ret; refine ⟨ret_int ?_, rfl⟩)
  all_goals (try simp only [beq_iff_eq, beq_eq_false_iff_ne, ne_eq, decide_eq_true_eq, decide_eq_false_iff_not] at *)
  all_goals (unfold lineG)
  all_goals (repeat (first | rfl | rw [if_pos (by omega)] | rw [if_neg (by omega)]))
end Go.Proofs.Ytfdmldbcblddlaa
