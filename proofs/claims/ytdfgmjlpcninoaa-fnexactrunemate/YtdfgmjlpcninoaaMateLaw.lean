import Derived.Test.YtdfgmjlpcninoaaMate
namespace Go.Proofs.Ytdfgmjlpcninoaa
open Go.ChangeShapes Go.WideShapes Go.ChangeAt Go.RowKit

set_option maxHeartbeats 1000000 in
theorem mateWalk (r : Int) (w : World) : Calls Try.prog 6 #[.int .i64 r] w fun e w' => e = .returned (.bool true) ∧ Below w.heap.size w w' := by
  go_enter Try.func6, Try.ntmps6
  go_wp2_with fail
  refine (specMate _ _).mono ?_
  rintro e w' ⟨rfl, hw⟩
  go_wp2_with fail
  refine (implMate _ _).mono ?_
  rintro e w'' ⟨rfl, rfl⟩
  go_wp2_with fail
  go_ret
  exact ⟨rfl, hw⟩

set_option maxHeartbeats 1000000 in
theorem mirrorWalk (r : Int) (w : World) : Calls Try.prog 5 #[.int .i64 r] w fun e w' => e = .returned (.bool true) ∧ Below w.heap.size w w' := by
  go_enter Try.func5, Try.ntmps5
  go_wp2_with fail
  refine (specMirror _ _).mono ?_
  rintro e w' ⟨rfl, hw⟩
  go_wp2_with fail
  refine (implMirror _ _).mono ?_
  rintro e w'' ⟨rfl, rfl⟩
  go_wp2_with fail
  go_ret
  exact ⟨rfl, hw⟩
end Go.Proofs.Ytdfgmjlpcninoaa
