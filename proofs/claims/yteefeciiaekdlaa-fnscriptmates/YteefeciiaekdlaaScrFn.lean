import Derived.Test.YteefeciiaekdlaaBidiImpl
import Derived.Test.YteefeciiaekdlaaMem
namespace Go.Proofs.Yteefeciiaekdlaa
open Go.ChangeShapes Go.WideShapes Go.ChangeAt Go.RowKit
set_option linter.unusedSimpArgs false

/-- The script of a letter. -/
def scr (r : Int) : Int :=
  if (97 ≤ r ∧ r ≤ 122) ∨ (65 ≤ r ∧ r ≤ 90) then 1 else if 1488 ≤ r ∧ r ≤ 1514 then 2 else
  if (1569 ≤ r ∧ r ≤ 1610) ∨ (1632 ≤ r ∧ r ≤ 1641) then 3 else if 19968 ≤ r ∧ r ≤ 40959 then 4 else 0
/-- The script out of the class. -/
def scrB (r c : Int) : Int := if 19968 ≤ r ∧ r ≤ 40959 then 4 else if c = 1 then 1 else if c = 2 then 2 else if c = 3 ∨ c = 7 then 3 else 0
theorem moves_ge (r : Int) : 13 ≤ moves r := by
  unfold moves
  (repeat' split) <;> omega
theorem signs_ge (r : Int) : signs r = 5 ∨ signs r = 6 ∨ 8 ≤ signs r := by
  have hm := moves_ge r
  unfold signs
  generalize moves r = m at *
  (repeat' split) <;> omega
theorem signs_no (r : Int) : signs r ≠ 1 ∧ signs r ≠ 2 ∧ signs r ≠ 3 ∧ signs r ≠ 7 := by
  have := signs_ge r
  omega
theorem bidi_cases (r : Int) : (bidi r = 1 ∧ ((97 ≤ r ∧ r ≤ 122) ∨ (65 ≤ r ∧ r ≤ 90) ∨ (19968 ≤ r ∧ r ≤ 40959))) ∨ (bidi r = 2 ∧ 1488 ≤ r ∧ r ≤ 1514) ∨ (bidi r = 3 ∧ 1569 ≤ r ∧ r ≤ 1610) ∨ (bidi r = 4 ∧ 48 ≤ r ∧ r ≤ 57) ∨ (bidi r = 7 ∧ 1632 ≤ r ∧ r ≤ 1641) ∨
    (bidi r = signs r ∧ ¬ ((97 ≤ r ∧ r ≤ 122) ∨ (65 ≤ r ∧ r ≤ 90) ∨ (19968 ≤ r ∧ r ≤ 40959)) ∧ ¬ (1488 ≤ r ∧ r ≤ 1514) ∧ ¬ (1569 ≤ r ∧ r ≤ 1610) ∧ ¬ (48 ≤ r ∧ r ≤ 57) ∧ ¬ (1632 ≤ r ∧ r ≤ 1641)) := by
  unfold bidi
  generalize signs r = s
  (repeat' split) <;> omega
theorem scrB_eq (r : Int) : scrB r (bidi r) = scr r := by
  have hs := signs_no r
  have hb := bidi_cases r
  unfold scrB scr
  generalize bidi r = c at *
  generalize signs r = s at *
  (repeat' split) <;> omega

set_option maxHeartbeats 1000000 in
theorem implScr (r : Int) (w : World) : Calls Try.prog 13 #[.int .i64 r] w fun e w' => e = .returned (.int .i64 (scr r)) ∧ Below w.heap.size w w' := by
  go_enter Try.func13, Try.ntmps13
  go_wp2_with fail
  refine (implBidi _ _).mono ?_
  rintro e w2 ⟨rfl, hb2⟩
  have HE : Hid _ := scrB_eq r
  obtain ⟨c, hc⟩ : ∃ c, bidi r = c := ⟨_, rfl⟩
  rw [hc] at HE ⊢
  clear hc
  go_wp2_with fail
  all_goals (go_ret; refine ⟨retInt ?_, hb2⟩)
  all_goals (rw [← HE.out]; unfold scrB)
  all_goals (try simp only [beq_iff_eq, beq_eq_false_iff_ne, ne_eq, Bool.or_eq_true, Bool.and_eq_true, decide_eq_true_eq, decide_eq_false_iff_not] at *)
  all_goals (repeat (first | rfl | rw [if_pos (by omega)] | rw [if_neg (by omega)]))

set_option maxHeartbeats 1000000 in
theorem specScr (r : Int) (w : World) : Calls Try.prog 14 #[.int .i64 r] w fun e w' => e = .returned (.int .i64 (scr r)) ∧ w' = w := by
  go_enter Try.func14, Try.ntmps14
  go_wp2_with (go_at_call 41; refine (specIn _ _ _ _).mono ?_; rintro e w' ⟨rfl, rfl⟩)
  all_goals (go_ret; refine ⟨retInt ?_, rfl⟩)
  all_goals (try simp only [beq_iff_eq, beq_eq_false_iff_ne, ne_eq, inB, decide_eq_true_eq, decide_eq_false_iff_not] at *)
  all_goals (unfold scr)
  all_goals (repeat (first | rfl | rw [if_pos (by omega)] | rw [if_neg (by omega)]))

set_option maxHeartbeats 1000000 in
theorem scrWalk (r : Int) (w : World) : Calls Try.prog 5 #[.int .i64 r] w fun e w' => e = .returned (.bool true) ∧ Below w.heap.size w w' := by
  go_enter Try.func5, Try.ntmps5
  go_wp2_with fail
  refine (specScr _ _).mono ?_
  rintro e w2 ⟨rfl, rfl⟩
  go_wp2_with fail
  refine (implScr _ _).mono ?_
  rintro e w3 ⟨rfl, hb⟩
  go_wp2_with fail
  go_ret
  exact ⟨rfl, hb⟩
end Go.Proofs.Yteefeciiaekdlaa
