import Derived.Test.YtgjhhfmhaalcnaaStandCp
namespace Go.Proofs.Ytgjhhfmhaalcnaa
open Go.ChangeShapes Go.WideShapes Go.ChangeAt Go.RowKit
set_option linter.unusedSimpArgs false

def standV (base align room : Int) : Value :=
  if align = 2 then .iface 102 (.agg #[.int .i64 room]) else if (align = 1 ↔ base = 0) then .iface 103 (.agg #[.int .i64 room]) else .iface 105 (.agg #[])
set_option maxHeartbeats 400000 in
theorem standOf_any (base align room : Int) (w : World) (h4 : base = 0 ∨ base = 1) :
    Calls Try.prog 53 #[.int .i64 base, .int .i64 align, .int .i64 room] w fun e w' => e = .returned (standV base align room) ∧ w' = w := by
  by_cases a2 : align = 2
  · subst a2
    rcases h4 with rfl | rfl
    all_goals
      go_enter Try.func53, Try.ntmps53
      go_wp2
      go_ret
      exact ⟨by simp [standV], rfl⟩
  · have g2 : (align == 2) = false := by simpa using a2
    by_cases a1 : align = 1
    · subst a1
      rcases h4 with rfl | rfl
      all_goals
        go_enter Try.func53, Try.ntmps53
        go_wp2
        go_ret
        exact ⟨by simp [standV], rfl⟩
    · have g1 : (align == 1) = false := by simpa using a1
      rcases h4 with rfl | rfl
      all_goals
        go_enter Try.func53, Try.ntmps53
        go_wp2
        go_ret
        exact ⟨by simp [standV, a1, a2], rfl⟩
theorem as_mid (v : Value) (x : TypeId) (w : World) : (Instr.typeAssert (.iface 102 v) x 102 true).run Try.prog w = .ok (.tuple #[v, .bool true]) w := by
  simp [Instr.typeAssert, run_underlying Try.underlying102, go_sem]
theorem as_right (v : Value) (x : TypeId) (w : World) : (Instr.typeAssert (.iface 103 v) x 103 true).run Try.prog w = .ok (.tuple #[v, .bool true]) w := by
  simp [Instr.typeAssert, run_underlying Try.underlying103, go_sem]
theorem as_right_mid (v : Value) (x : TypeId) (w : World) : (Instr.typeAssert (.iface 103 v) x 102 true).run Try.prog w = .ok (.tuple #[.agg #[.int .i64 0], .bool false]) w := by
  simp [Instr.typeAssert, run_underlying Try.underlying102, go_sem]
theorem as_left_mid (v : Value) (x : TypeId) (w : World) : (Instr.typeAssert (.iface 105 v) x 102 true).run Try.prog w = .ok (.tuple #[.agg #[.int .i64 0], .bool false]) w := by
  simp [Instr.typeAssert, run_underlying Try.underlying102, go_sem]
theorem as_left_right (v : Value) (x : TypeId) (w : World) : (Instr.typeAssert (.iface 105 v) x 103 true).run Try.prog w = .ok (.tuple #[.agg #[.int .i64 0], .bool false]) w := by
  simp [Instr.typeAssert, run_underlying Try.underlying103, go_sem]
attribute [local go_sem] as_mid as_right as_right_mid as_left_mid as_left_right
set_option maxRecDepth 20000 in
set_option maxHeartbeats 400000 in
theorem roomAhead_mid (room : Int) (w : World) (h0 : 0 ≤ room) (h1 : room ≤ 20000) :
    Calls Try.prog 52 #[.iface 102 (.agg #[.int .i64 room])] w fun e w' => e = .returned (.int .i64 (room / 2)) ∧ Below w.heap.size w w' := by
  go_enter Try.func52, Try.ntmps52
  go_wp2
  go_ret
  exact ⟨rfl, by go_grown⟩
set_option maxRecDepth 20000 in
set_option maxHeartbeats 400000 in
theorem roomAhead_right (room : Int) (w : World) :
    Calls Try.prog 52 #[.iface 103 (.agg #[.int .i64 room])] w fun e w' => e = .returned (.int .i64 room) ∧ Below w.heap.size w w' := by
  go_enter Try.func52, Try.ntmps52
  go_wp2
  go_ret
  exact ⟨rfl, by go_grown⟩
set_option maxRecDepth 20000 in
set_option maxHeartbeats 400000 in
theorem roomAhead_left (w : World) :
    Calls Try.prog 52 #[.iface 105 (.agg #[])] w fun e w' => e = .returned (.int .i64 0) ∧ Below w.heap.size w w' := by
  go_enter Try.func52, Try.ntmps52
  go_wp2
  go_ret
  exact ⟨rfl, by go_grown⟩
theorem roomAhead_any (base align room : Int) (w : World) (h0 : 0 ≤ room) (h1 : room ≤ 20000) :
    Calls Try.prog 52 #[standV base align room] w fun e w' => e = .returned (.int .i64 (roomF base align room)) ∧ Below w.heap.size w w' := by
  unfold standV roomF
  by_cases a2 : align = 2
  · rw [if_pos a2, if_pos a2]; exact roomAhead_mid room w h0 h1
  · rw [if_neg a2, if_neg a2]
    by_cases a1 : (align = 1 ↔ base = 0)
    · rw [if_pos a1, if_pos a1]; exact roomAhead_right room w
    · rw [if_neg a1, if_neg a1]; exact roomAhead_left w

set_option maxHeartbeats 400000 in
theorem lineLike_any (f t d : Int) (u : Value) (w : World) :
    Calls Try.prog 54 #[.agg #[.int .i64 f, .int .i64 t, .int .i64 d, u]] w fun e w' => e = .returned (.agg #[.int .i64 f, .int .i64 t, .int .i64 d, .slice none 0 0, .int .i64 0]) ∧ Below w.heap.size w w' := by
  go_enter Try.func54, Try.ntmps54
  go_wp2
  exact bodyPost_ret (v := .agg #[.int .i64 f, .int .i64 t, .int .i64 d, .slice none 0 0, .int .i64 0]) (by simp [results, Try.results54, go_sem]) rfl ⟨rfl, by go_grown⟩
set_option maxHeartbeats 400000 in
theorem at_any (f t d x x' : Int) (a : Option Addr) (n c : Nat) (w : World) :
    Calls Try.prog 55 #[.agg #[.int .i64 f, .int .i64 t, .int .i64 d, .slice a n c, .int .i64 x], .int .i64 x'] w fun e w' => e = .returned (.agg #[.int .i64 f, .int .i64 t, .int .i64 d, .slice a n c, .int .i64 x']) ∧ Below w.heap.size w w' := by
  go_enter Try.func55, Try.ntmps55
  go_wp2
  exact bodyPost_ret (v := .agg #[.int .i64 f, .int .i64 t, .int .i64 d, .slice a n c, .int .i64 x']) (by simp [results, Try.results55, go_sem]) rfl ⟨rfl, by go_grown⟩
end Go.Proofs.Ytgjhhfmhaalcnaa
