import Derived.Test.YtbacfaddljjopaaOk
import Derived.Test.YtbacfaddljjopaaBidiImpl
namespace Go.Proofs.Ytbacfaddljjopaa
open Go.ChangeShapes Go.WideShapes Go.ChangeAt Go.RowKit
set_option linter.unusedSimpArgs false

set_option maxHeartbeats 1000000 in
theorem implFlag (r : Int) (w : World) : Calls Try.prog 88 #[.int .i64 r] w fun e w' => e = .returned (.bool (flag r)) ∧ w' = w := by
  go_enter Try.func88, Try.ntmps88
  go_wp2
  all_goals (go_ret; refine ⟨retBool ?_, rfl⟩)
  all_goals (simp [flag])
  all_goals omega

def after (s r : Int) : Int := if r = 13 then 2 else if r = 10 then 3 else if flag r = true ∧ s ≠ 4 then 4 else 1

set_option maxHeartbeats 1000000 in
theorem implAfter (s r : Int) (w : World) : Calls Try.prog 67 #[.int .i64 s, .int .i64 r] w fun e w' => e = .returned (.int .i64 (after s r)) ∧ w' = w := by
  go_enter Try.func67, Try.ntmps67
  go_wp2_with (go_at_call 88; refine (implFlag _ _).mono ?_; rintro e w' ⟨rfl, rfl⟩)
  all_goals (go_ret; refine ⟨retInt ?_, rfl⟩)
  all_goals (unfold after; simp_all)

set_option maxHeartbeats 1000000 in
theorem implJoins (s r : Int) (w : World) : Calls Try.prog 66 #[.int .i64 s, .int .i64 r] w fun e w' => e = .returned (.bool (stJoins s r)) ∧ Below w.heap.size w w' := by
  go_enter Try.func66, Try.ntmps66
  go_wp2_with (first | (go_at_call 88; refine (implFlag _ _).mono ?_; rintro e w' ⟨rfl, rfl⟩) | (go_at_call 87; refine (implBidi _ _).mono ?_; rintro e w' ⟨rfl, hw⟩))
  all_goals (go_ret; refine ⟨retBool ?_, by first | exact hw | exact Below.refl _ _⟩)
  all_goals (unfold stJoins; simp_all)
end Go.Proofs.Ytbacfaddljjopaa
