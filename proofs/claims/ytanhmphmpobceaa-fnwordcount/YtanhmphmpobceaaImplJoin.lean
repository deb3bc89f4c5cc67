import Derived.Test.YtanhmphmpobceaaOk
import Derived.Test.YtanhmphmpobceaaBidiImpl
namespace Go.Proofs.Ytanhmphmpobceaa
open Go.ChangeShapes Go.WideShapes Go.ChangeAt Go.RowKit
set_option linter.unusedSimpArgs false

set_option maxHeartbeats 1000000 in
theorem implFlag (r : Int) (w : World) : Calls Try.prog 51 #[.int .i64 r] w fun e w' => e = .returned (.bool (flag r)) ∧ w' = w := by
  go_enter Try.func51, Try.ntmps51
  go_wp2
  all_goals (go_ret; refine ⟨retBool ?_, rfl⟩)
  all_goals (simp [flag])
  all_goals omega

def after (s r : Int) : Int := if r = 13 then 2 else if r = 10 then 3 else if flag r = true ∧ s ≠ 4 then 4 else 1

set_option maxHeartbeats 1000000 in
theorem implAfter (s r : Int) (w : World) : Calls Try.prog 42 #[.int .i64 s, .int .i64 r] w fun e w' => e = .returned (.int .i64 (after s r)) ∧ w' = w := by
  go_enter Try.func42, Try.ntmps42
  go_wp2_with (go_at_call 51; refine (implFlag _ _).mono ?_; rintro e w' ⟨rfl, rfl⟩)
  all_goals (go_ret; refine ⟨retInt ?_, rfl⟩)
  all_goals (unfold after; simp_all)

set_option maxHeartbeats 1000000 in
theorem implJoins (s r : Int) (w : World) : Calls Try.prog 41 #[.int .i64 s, .int .i64 r] w fun e w' => e = .returned (.bool (stJoins s r)) ∧ Below w.heap.size w w' := by
  go_enter Try.func41, Try.ntmps41
  go_wp2_with (first | (go_at_call 51; refine (implFlag _ _).mono ?_; rintro e w' ⟨rfl, rfl⟩) | (go_at_call 43; refine (implBidi _ _).mono ?_; rintro e w' ⟨rfl, hw⟩))
  all_goals (go_ret; refine ⟨retBool ?_, by first | exact hw | exact Below.refl _ _⟩)
  all_goals (unfold stJoins; simp_all)
end Go.Proofs.Ytanhmphmpobceaa
