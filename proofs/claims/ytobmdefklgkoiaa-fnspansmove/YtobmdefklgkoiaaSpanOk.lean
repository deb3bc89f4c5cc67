import Derived.Test.YtobmdefklgkoiaaSpanMath
import Derived.Deep.RegionWith
namespace Go.Proofs.Ytobmdefklgkoiaa
open Go.ChangeShapes Go.WideShapes Go.ChangeAt Go.RowKit
set_option linter.unusedSimpArgs false

set_option maxHeartbeats 2000000 in
theorem implSpOk (c f t s m : Int) (w : World) :
    Calls Try.prog 37 #[.agg #[.int .i64 f, .int .i64 t, .int .i64 s, .int .i64 m], .int .i64 c] w fun e w' => e = .returned (.bool (spOk c f t s m)) ∧ Below w.heap.size w w' := by
  go_enter Try.func37, Try.ntmps37
  go_wp2_with fail
  all_goals (go_ret; refine ⟨retBool ?_, by go_grown⟩)
  all_goals (first | (unfold spOk; simp; omega) | (unfold spOk; rw [Bool.eq_iff_iff]; simp only [decide_eq_true_eq]; omega))

set_option maxHeartbeats 2000000 in
theorem specSpOk (c f t s m : Int) (w : World) (hc0 : 0 ≤ c) (hc1 : c ≤ 80) :
    Calls Try.prog 38 #[.agg #[.int .i64 f, .int .i64 t, .int .i64 s, .int .i64 m], .int .i64 c] w fun e w' => e = .returned (.bool (spOk c f t s m)) ∧ Below w.heap.size w w' := by
  by_cases h : 0 ≤ f ∧ f ≤ c - 1
  · obtain ⟨h1, h2⟩ := h
    go_enter Try.func38, Try.ntmps38
    go_wp2_with (go_at_call 39; refine (specIn _ _ _ _).mono ?_; rintro e w' ⟨rfl, rfl⟩)
    all_goals (go_ret; refine ⟨retBool ?_, by go_grown⟩)
    all_goals (simp only [inB, decide_eq_true_eq, decide_eq_false_iff_not] at *; first | (unfold spOk; simp; omega) | (unfold spOk; rw [Bool.eq_iff_iff]; simp only [decide_eq_true_eq]; omega))
  · have hf : inB f 0 (c - 1) = false := by simp only [inB, decide_eq_false_iff_not]; exact h
    go_enter Try.func38, Try.ntmps38
    go_wp2_with (go_at_call 39; refine (specIn _ _ _ _).mono ?_; rintro e w' ⟨rfl, rfl⟩)
    all_goals (go_ret; refine ⟨retBool ?_, by go_grown⟩)
    all_goals (unfold spOk; simp)
    all_goals omega

set_option maxHeartbeats 2000000 in
theorem specSpOk_any (c f t s m : Int) (w : World) :
    Calls Try.prog 38 #[.agg #[.int .i64 f, .int .i64 t, .int .i64 s, .int .i64 m], .int .i64 c] w fun e w' => (∃ b, e = .returned (.bool b)) ∧ Below w.heap.size w w' := by
  go_enter Try.func38, Try.ntmps38
  go_wp2_with (go_at_call 39; refine (specIn _ _ _ _).mono ?_; rintro e w' ⟨rfl, rfl⟩)
  all_goals (go_ret; exact ⟨⟨_, rfl⟩, by go_grown⟩)
end Go.Proofs.Ytobmdefklgkoiaa
