import Derived.Test.YtpnjjilidffgcasLineSpec
namespace Go.Proofs.Ytpnjjilidffgcas
open Go.ChangeShapes Go.WideShapes Go.ChangeAt Go.RowKit
set_option linter.unusedSimpArgs false

set_option maxHeartbeats 1000000 in
theorem lineWalk (r : Int) (w : World) : Calls Try.prog 6 #[.int .i64 r] w fun e w' => e = .returned (.bool true) ∧ Below w.heap.size w w' := by
  go_enter Try.func6, Try.ntmps6
  go_wp2_with fail
  refine (specLine _ _).mono ?_
  rintro e w' ⟨rfl, hw⟩
  go_wp2_with fail
  refine (implLine _ _).mono ?_
  rintro e w'' ⟨rfl, hw2⟩
  go_wp2_with fail
  go_ret
  exact ⟨rfl, hw.trans (hw2.mono hw.size)⟩
end Go.Proofs.Ytpnjjilidffgcas
