import Derived.Test.YtpdngcjioaeckaqMate
namespace Go.Proofs.Ytpdngcjioaeckaq
open Go.ChangeShapes Go.WideShapes Go.ChangeAt Go.RowKit

set_option maxHeartbeats 1000000 in
theorem mateWalk (r : Int) (w : World) : Calls Try.prog 4 #[.int .i64 r] w fun e w' => e = .returned (.bool true) ∧ Below w.heap.size w w' := by
  go_enter Try.func4, Try.ntmps4
  go_wp2_with fail
  refine (specMate _ _).mono ?_
  rintro e w' ⟨rfl, hw⟩
  go_wp2_with fail
  refine (implMate _ _).mono ?_
  rintro e w'' ⟨rfl, rfl⟩
  go_wp2_with fail
  go_ret
  exact ⟨rfl, hw⟩

set_option maxHeartbeats 1000000 in
theorem mirrorWalk (r : Int) (w : World) : Calls Try.prog 3 #[.int .i64 r] w fun e w' => e = .returned (.bool true) ∧ Below w.heap.size w w' := by
  go_enter Try.func3, Try.ntmps3
  go_wp2_with fail
  refine (specMirror _ _).mono ?_
  rintro e w' ⟨rfl, hw⟩
  go_wp2_with fail
  refine (implMirror _ _).mono ?_
  rintro e w'' ⟨rfl, rfl⟩
  go_wp2_with fail
  go_ret
  exact ⟨rfl, hw⟩
end Go.Proofs.Ytpdngcjioaeckaq
