import Derived.Test.YtbacfaddljjopaaBreakMath
import Derived.Test.YtbacfaddljjopaaLineSpec
namespace Go.Proofs.Ytbacfaddljjopaa
open Go.ChangeShapes Go.WideShapes Go.ChangeAt Go.RowKit
set_option linter.unusedSimpArgs false

def innerS (a b : Int) : Int :=
  if (a = 1 ∨ a = 2) ∧ (b = 1 ∨ b = 2) then 0 else if b = 2 ∧ (a = 12 ∨ a = 13) then 0 else if a = 13 ∧ b = 1 then 0 else if ((a = 1 ∨ a = 2) ∧ b = 8) ∨ (a = 9 ∧ (b = 1 ∨ b = 2)) then 0 else 1
def placeS (a b s : Int) : Int :=
  if a = 4 then 2 else if b = 4 ∨ b = 3 ∨ b = 6 then 0 else if s = 6 then 1 else if a = 5 ∨ (b = 5 ∧ a ≠ 3 ∧ a ≠ 14 ∧ a ≠ 12) then 0 else
  if ((b = 9 ∨ b = 10 ∨ b = 13) ∧ a ≠ 3) ∨ ((b = 9 ∨ b = 10) ∧ s ≠ 0) then 0 else if s = 8 then 0 else if a = 3 then 1 else if a = 11 ∨ b = 11 ∨ b = 14 ∨ b = 12 then 0 else innerS a b
theorem within_inner (a b : Int) : (if withinB a b = true then (0 : Int) else 1) = innerS a b := by
  unfold withinB innerS memB
  by_cases h1 : a = 1 <;> by_cases h2 : a = 2 <;> by_cases h3 : a = 12 <;> by_cases h4 : a = 13 <;> by_cases h5 : a = 9 <;> by_cases g1 : b = 1 <;> by_cases g2 : b = 2 <;> by_cases g3 : b = 8 <;> simp_all
theorem ite_c {p q : Prop} [Decidable p] [Decidable q] {x y z : Int} (h : p ↔ q) (e : y = z) : (if p then x else y) = if q then x else z := by
  by_cases c : p
  · rw [if_pos c, if_pos (h.1 c)]
  · rw [if_neg c, if_neg (fun d => c (h.2 d))]; exact e
theorem place_is (a b s : Int) : place a b s = placeS a b s := by
  rw [place_eq]; unfold placeS
  refine ite_c (by simp [ruleC]) (ite_c (by simp [ruleC, memB]) (ite_c (by simp [ruleC]) (ite_c ?_ (ite_c ?_ (ite_c (by simp [ruleC]) (ite_c (by simp [ruleC]) (ite_c ?_ (within_inner a b))))))))
  · simp [ruleC, memB]
  · simp [ruleC, memB]
  · simp [ruleC, memB]

set_option maxHeartbeats 1000000 in
theorem specWord? (c : Int) (w : World) : Calls Try.prog 121 #[.int .i64 c] w fun e w' => e = .returned (.bool (decide (c = 1 ∨ c = 2))) ∧ w' = w := by
  go_enter Try.func121, Try.ntmps121
  go_wp2
  all_goals (go_ret; refine ⟨retBool ?_, rfl⟩)
  all_goals (rw [Bool.eq_iff_iff]; simp only [decide_eq_true_eq, Bool.or_eq_true, beq_iff_eq] at *; try omega)
  all_goals (simp_all)
set_option maxHeartbeats 1000000 in
theorem specNever? (c : Int) (w : World) : Calls Try.prog 106 #[.int .i64 c] w fun e w' => e = .returned (.bool (decide (c = 9 ∨ c = 10 ∨ c = 13))) ∧ w' = w := by
  go_enter Try.func106, Try.ntmps106
  go_wp2
  all_goals (go_ret; refine ⟨retBool ?_, rfl⟩)
  all_goals (rw [Bool.eq_iff_iff]; simp only [decide_eq_true_eq, Bool.or_eq_true, beq_iff_eq] at *; try omega)
  all_goals (simp_all)
def wordB (c : Int) : Bool := decide (c = 1 ∨ c = 2)
def neverB (c : Int) : Bool := decide (c = 9 ∨ c = 10 ∨ c = 13)
set_option maxHeartbeats 2000000 in
theorem specInner (a b : Int) (w : World) : Calls Try.prog 107 #[.int .i64 a, .int .i64 b] w fun e w' => e = .returned (.int .i64 (innerS a b)) ∧ w' = w := by
  go_enter Try.func107, Try.ntmps107
  go_wp2_with (go_at_call 121; refine (specWord? _ _).mono ?_; rintro e w' ⟨rfl, rfl⟩)
  all_goals (go_ret; refine ⟨retInt ?_, rfl⟩)
  all_goals (try simp only [beq_iff_eq, beq_eq_false_iff_ne, ne_eq, decide_eq_true_eq, decide_eq_false_iff_not, bne_iff_ne, Bool.or_eq_true, Bool.and_eq_true, bne_eq_false_iff_eq, Bool.or_eq_false_iff, Bool.and_eq_false_iff] at *)
  all_goals (unfold innerS)
  all_goals (repeat (first | rfl | rw [if_pos (by omega)] | rw [if_neg (by omega)] | (congr 1 <;> omega)))
set_option maxHeartbeats 4000000 in
theorem specPlace (a b s : Int) (w : World) (R : Int) (hR : Hid (place a b s = R)) : Calls Try.prog 95 #[.int .i64 a, .int .i64 b, .int .i64 s] w fun e w' => e = .returned (.int .i64 R) ∧ w' = w := by
  rw [← hR.out, place_is]
  clear hR
  go_enter Try.func95, Try.ntmps95
  go_wp2_with (first | (go_at_call 106; refine (specNever? _ _).mono ?_; rintro e w' ⟨rfl, rfl⟩) | (go_at_call 107; refine (specInner _ _ _).mono ?_; rintro e w' ⟨rfl, rfl⟩))
  all_goals (go_ret; refine ⟨retInt ?_, rfl⟩)
  all_goals (try simp only [beq_iff_eq, beq_eq_false_iff_ne, ne_eq, decide_eq_true_eq, decide_eq_false_iff_not, bne_iff_ne, Bool.or_eq_true, Bool.and_eq_true, bne_eq_false_iff_eq, Bool.or_eq_false_iff, Bool.and_eq_false_iff] at *)
  all_goals (unfold placeS)
  all_goals (repeat (first | rfl | rw [if_pos (by omega)] | rw [if_neg (by omega)] | (congr 1 <;> omega)))
end Go.Proofs.Ytbacfaddljjopaa
