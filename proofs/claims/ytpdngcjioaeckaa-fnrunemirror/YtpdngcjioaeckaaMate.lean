import Derived.Test.YtpdngcjioaeckaaBase
namespace Go.Proofs.Ytpdngcjioaeckaa
open Go.ChangeShapes Go.WideShapes Go.ChangeAt Go.RowKit

def mate (r : Int) : Int :=
  if r = 40 then 41 else if r = 41 then 40 else if r = 91 then 93 else if r = 93 then 91 else if r = 123 then 125 else if r = 125 then 123 else 0

def mirror (r : Int) : Int :=
  if mate r = 0 then (if r = 60 then 62 else if r = 62 then 60 else r) else mate r

set_option maxHeartbeats 1000000 in
theorem implMate (r : Int) (w : World) : Calls Try.prog 8 #[.int .i64 r] w fun e w' => e = .returned (.int .i64 (mate r)) ∧ w' = w := by
  go_enter Try.func8, Try.ntmps8
  go_wp2
  all_goals (go_ret; exact ⟨ret_int (by simp_all [mate]), rfl⟩)

set_option maxHeartbeats 1000000 in
theorem specMate (r : Int) (w : World) : Calls Try.prog 10 #[.int .i64 r] w fun e w' => e = .returned (.int .i64 (mate r)) ∧ Below w.heap.size w w' := by
  go_enter Try.func10, Try.ntmps10
  go_wp2
  go_rounds 7
  all_goals (go_ret; refine ⟨ret_int ?_, by go_grown⟩)
  all_goals (simp_all [mate])
  all_goals (first | (subst_vars; rfl) | (repeat (rw [if_neg (by omega)])))

set_option maxHeartbeats 1000000 in
theorem implMirror (r : Int) (w : World) : Calls Try.prog 7 #[.int .i64 r] w fun e w' => e = .returned (.int .i64 (mirror r)) ∧ w' = w := by
  by_cases hm : mate r = 0
  · have hb : (mate r == 0) = true := by simp [hm]
    go_enter Try.func7, Try.ntmps7
    go_wp2_with (go_at_call 8; refine (implMate _ _).mono ?_; rintro e w' ⟨rfl, rfl⟩)
    all_goals (go_ret; refine ⟨ret_int ?_, rfl⟩)
    all_goals (simp_all [mirror])
  · have hb : (mate r == 0) = false := by simp [hm]
    go_enter Try.func7, Try.ntmps7
    go_wp2_with (go_at_call 8; refine (implMate _ _).mono ?_; rintro e w' ⟨rfl, rfl⟩)
    all_goals (go_ret; refine ⟨ret_int ?_, rfl⟩)
    all_goals (simp_all [mirror])

set_option maxHeartbeats 1000000 in
theorem specMirror (r : Int) (w : World) : Calls Try.prog 9 #[.int .i64 r] w fun e w' => e = .returned (.int .i64 (mirror r)) ∧ Below w.heap.size w w' := by
  by_cases hm : mate r = 0
  · have hb : (mate r == 0) = true := by simp [hm]
    go_enter Try.func9, Try.ntmps9
    go_wp2_with fail
    refine (specMate _ _).mono ?_
    rintro e w' ⟨rfl, hw⟩
    go_wp2_with fail
    all_goals (go_ret; refine ⟨ret_int ?_, hw⟩)
    all_goals (simp_all [mirror])
  · have hb : (mate r == 0) = false := by simp [hm]
    go_enter Try.func9, Try.ntmps9
    go_wp2_with fail
    refine (specMate _ _).mono ?_
    rintro e w' ⟨rfl, hw⟩
    go_wp2_with fail
    refine (specMate _ _).mono ?_
    rintro e w'' ⟨rfl, hw2⟩
    go_wp2_with fail
    all_goals (go_ret; refine ⟨ret_int ?_, hw.trans (hw2.mono hw.size)⟩)
    all_goals (simp_all [mirror])
end Go.Proofs.Ytpdngcjioaeckaa
