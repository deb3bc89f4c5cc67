import Derived.Test.YtbacfaddljjopaaLineMath
import Derived.Test.YtbacfaddljjopaaBidiImpl
namespace Go.Proofs.Ytbacfaddljjopaa
open Go.ChangeShapes Go.WideShapes Go.ChangeAt Go.RowKit
set_option linter.unusedSimpArgs false

set_option maxHeartbeats 2000000 in
theorem implRange' (r c : Int) (hc : Hid (bidi r = c)) (w : World) : Calls Try.prog 96 #[.int .i64 r] w fun e w' => e = .returned (.int .i64 (lineR c r)) ∧ Below w.heap.size w w' := by
  go_enter Try.func96, Try.ntmps96
  go_wp2_with (go_at_call 87; refine (implBidi _ _).mono ?_; rintro e w' ⟨rfl, hw⟩; rw [hc.out])
  all_goals (go_ret; refine ⟨ret_int ?_, by first | exact hw | exact Below.refl _ _⟩)
  all_goals (try simp only [beq_iff_eq, beq_eq_false_iff_ne, ne_eq, decide_eq_true_eq, decide_eq_false_iff_not] at *)
  all_goals (unfold lineR)
  all_goals (repeat (first | rfl | rw [if_pos (by omega)] | rw [if_neg (by omega)]))

set_option maxHeartbeats 4000000 in
theorem implLine (r : Int) (w : World) : Calls Try.prog 78 #[.int .i64 r] w fun e w' => e = .returned (.int .i64 (lineI r)) ∧ Below w.heap.size w w' := by
  go_enter Try.func78, Try.ntmps78
  go_wp2_with (go_at_call 96; refine (implRange' _ _ rfl _).mono ?_; rintro e w' ⟨rfl, hw⟩)
  all_goals (go_ret; refine ⟨ret_int ?_, by first | exact hw | exact Below.refl _ _⟩)
  all_goals (try simp only [beq_iff_eq, beq_eq_false_iff_ne, ne_eq, decide_eq_true_eq, decide_eq_false_iff_not] at *)
  all_goals (unfold lineI)
  all_goals (repeat (first | rfl | rw [if_pos (by omega)] | rw [if_neg (by omega)]))

set_option maxHeartbeats 2000000 in
theorem specLineSigns (r : Int) (w : World) : Calls Try.prog 105 #[.int .i64 r] w fun e w' => e = .returned (.int .i64 (lineG r)) ∧ w' = w := by
  go_enter Try.func105, Try.ntmps105
  go_wp2
  all_goals (go_ret; refine ⟨ret_int ?_, rfl⟩)
  all_goals (try simp only [beq_iff_eq, beq_eq_false_iff_ne, ne_eq, decide_eq_true_eq, decide_eq_false_iff_not] at *)
  all_goals (unfold lineG)
  all_goals (repeat (first | rfl | rw [if_pos (by omega)] | rw [if_neg (by omega)]))
end Go.Proofs.Ytbacfaddljjopaa
