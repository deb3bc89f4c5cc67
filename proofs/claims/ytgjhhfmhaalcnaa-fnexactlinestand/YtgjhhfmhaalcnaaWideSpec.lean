import Derived.Test.YtgjhhfmhaalcnaaBidi
import Derived.Test.YtgjhhfmhaalcnaaWide
namespace Go.Proofs.Ytgjhhfmhaalcnaa
open Go.ChangeShapes Go.WideShapes Go.ChangeAt Go.RowKit
set_option linter.unusedSimpArgs false

def thin (j : Nat) : Int := [105, 106, 108, 102, 116].getD j 0
theorem thin_iff (r : Int) : hasF thin 5 r = true ↔ (r = 105 ∨ r = 106 ∨ r = 108 ∨ r = 102 ∨ r = 116) := by
  simp [hasF, thin, List.range, List.range.loop]; omega
theorem thin_not (r : Int) : hasF thin 5 r = false ↔ ¬ (r = 105 ∨ r = 106 ∨ r = 108 ∨ r = 102 ∨ r = 116) := by
  rw [← thin_iff]; simp

theorem thin_cells (w : World) (T : TypeId) : Hid (∀ j, j < 5 → (w.alloc (.cells #[.int .i64 105, .int .i64 106, .int .i64 108, .int .i64 102, .int .i64 116] T)).cell? ⟨w.heap.size, 0 + j, none⟩ = some (.int .i64 (thin j))) := by
  intro j hj
  rcases (show j = 0 ∨ j = 1 ∨ j = 2 ∨ j = 3 ∨ j = 4 by omega) with rfl | rfl | rfl | rfl | rfl <;> simp [thin]

set_option maxHeartbeats 2000000 in
theorem specWide' (r c : Int) (hc : Hid (bidi r = c)) (w : World) : Calls Try.prog 107 #[.int .i64 r] w fun e w' => e = .returned (.int .i64 (wideOf c r)) ∧ Below w.heap.size w w' := by
  go_enter Try.func107, Try.ntmps107
  go_wp2_with fail
  refine (specBidi _ _).mono ?_
  rintro e w' ⟨rfl, hw⟩
  rw [hc.out]
  go_wp2_with (first | (go_at_call 132; refine (specHas _ 0 5 5 thin _ _ (by omega) (thin_cells _ _)).mono ?_; rintro e w'' ⟨rfl, rfl⟩) | (go_at_call 36; refine (specIn _ _ _ _).mono ?_; rintro e w' ⟨rfl, rfl⟩))
  all_goals (go_ret; refine ⟨ret_int ?_, by first | exact hw | exact hw.alloc hw.size _⟩)
  all_goals (try simp only [beq_iff_eq, beq_eq_false_iff_ne, ne_eq, inB, decide_eq_true_eq, decide_eq_false_iff_not, thin_iff, thin_not] at *)
  all_goals (unfold wideOf)
  all_goals (repeat (first | rfl | rw [if_pos (by omega)] | rw [if_neg (by omega)]))

theorem specWide (r : Int) (w : World) : Calls Try.prog 107 #[.int .i64 r] w fun e w' => e = .returned (.int .i64 (wideOf (bidi r) r)) ∧ Below w.heap.size w w' :=
  specWide' r _ rfl w
end Go.Proofs.Ytgjhhfmhaalcnaa
