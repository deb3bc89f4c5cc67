import Derived.Test.YtgojdlbidjnmmaaGreatBase
namespace Go.Proofs.YtgojdlbidjnmmaaGreat
open Go.ChangeShapes Go.WideShapes Go.ChangeAt Go.RowKit

def mate (r : Int) : Int :=
  if r = 40 then 41 else if r = 41 then 40 else if r = 91 then 93 else if r = 93 then 91 else if r = 123 then 125 else if r = 125 then 123 else 0

def mirror (r : Int) : Int :=
  if mate r = 0 then (if r = 60 then 62 else if r = 62 then 60 else r) else mate r

set_option maxHeartbeats 1000000 in
theorem implMate (r : Int) (w : World) : Calls Tryz.prog 54 #[.int .i64 r] w fun e w' => e = .returned (.int .i64 (mate r)) ∧ w' = w := by
  go_enter Tryz.func54, Tryz.ntmps54
  go_wp2
  all_goals (go_ret; exact ⟨ret_int (by simp_all [mate]), rfl⟩)

set_option maxHeartbeats 1000000 in
theorem specMate (r : Int) (w : World) : Calls Tryz.prog 90 #[.int .i64 r] w fun e w' => e = .returned (.int .i64 (mate r)) ∧ Below w.heap.size w w' := by
  go_enter Tryz.func90, Tryz.ntmps90
  go_wp2
  go_rounds 7
  all_goals (go_ret; refine ⟨ret_int ?_, by go_grown⟩)
  all_goals (simp_all [mate])
  all_goals (first | (subst_vars; rfl) | (repeat (rw [if_neg (by omega)])))

end Go.Proofs.YtgojdlbidjnmmaaGreat
