import Derived.Test.YtpdngcjioaeckapWideSpec
namespace Go.Proofs.Ytpdngcjioaeckap
open Go.ChangeShapes Go.WideShapes Go.ChangeAt Go.RowKit
set_option linter.unusedSimpArgs false

set_option maxHeartbeats 1000000 in
theorem bidiWalk (r : Int) (w : World) : Calls Try.prog 4 #[.int .i64 r] w fun e w' => e = .returned (.bool true) ∧ Below w.heap.size w w' := by
  go_enter Try.func4, Try.ntmps4
  go_wp2_with fail
  refine (specBidi _ _).mono ?_
  rintro e w' ⟨rfl, hw⟩
  go_wp2_with fail
  refine (implBidi _ _).mono ?_
  rintro e w'' ⟨rfl, hw2⟩
  go_wp2_with fail
  go_ret
  exact ⟨rfl, hw.trans (hw2.mono hw.size)⟩

set_option maxHeartbeats 1000000 in
theorem wideWalk (r : Int) (w : World) : Calls Try.prog 5 #[.int .i64 r] w fun e w' => e = .returned (.bool true) ∧ Below w.heap.size w w' := by
  go_enter Try.func5, Try.ntmps5
  go_wp2_with fail
  refine (specWide _ _).mono ?_
  rintro e w' ⟨rfl, hw⟩
  go_wp2_with fail
  refine (implWide _ _).mono ?_
  rintro e w'' ⟨rfl, hw2⟩
  go_wp2_with fail
  go_ret
  exact ⟨rfl, hw.trans (hw2.mono hw.size)⟩
end Go.Proofs.Ytpdngcjioaeckap
