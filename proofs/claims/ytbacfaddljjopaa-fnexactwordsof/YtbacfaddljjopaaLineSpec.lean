import Derived.Test.YtbacfaddljjopaaLine
namespace Go.Proofs.Ytbacfaddljjopaa
open Go.ChangeShapes Go.WideShapes Go.ChangeAt Go.RowKit
set_option linter.unusedSimpArgs false

theorem bstep2 {w a b : World} (h : Below w.heap.size w a) (k : Below a.heap.size a b) : Below w.heap.size w b := h.trans (k.mono h.size)

set_option maxHeartbeats 4000000 in
theorem specLine' (r c : Int) (hc : Hid (bidi r = c)) (w : World) : Calls Try.prog 93 #[.int .i64 r] w fun e w' => e = .returned (.int .i64 (lineS c r)) ∧ Below w.heap.size w w' := by
  have hb : Below w.heap.size w w := Below.refl _ _
  go_enter Try.func93, Try.ntmps93
  go_wp2_with (first | (go_at_call 102; refine (specBidi _ _).mono ?_; rintro e w' ⟨rfl, hw⟩; rw [hc.out]; replace hb := bstep2 hb hw; clear hw) | (go_at_call 71; refine (specIn _ _ _ _).mono ?_; rintro e w' ⟨rfl, rfl⟩) | (go_at_call 105; refine (specLineSigns _ _).mono ?_; rintro e w' ⟨rfl, rfl⟩))
  all_goals (go_ret; refine ⟨ret_int ?_, hb⟩)
  all_goals (try simp only [beq_iff_eq, beq_eq_false_iff_ne, ne_eq, inB, decide_eq_true_eq, decide_eq_false_iff_not] at *)
  all_goals (unfold lineS)
  all_goals (repeat (first | rfl | rw [if_pos (by omega)] | rw [if_neg (by omega)]))

theorem specLine (r : Int) (w : World) : Calls Try.prog 93 #[.int .i64 r] w fun e w' => e = .returned (.int .i64 (lineI r)) ∧ Below w.heap.size w w' := by
  rw [line_same]; exact specLine' r _ rfl w
end Go.Proofs.Ytbacfaddljjopaa
