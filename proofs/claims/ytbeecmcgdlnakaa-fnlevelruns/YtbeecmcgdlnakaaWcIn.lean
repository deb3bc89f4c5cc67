import Derived.Test.YtbeecmcgdlnakaaMem
namespace Go.Proofs.Ytbeecmcgdlnakaa
open Go.ChangeShapes Go.WideShapes Go.ChangeAt Go.RowKit
set_option linter.unusedSimpArgs false

set_option maxHeartbeats 1000000 in
theorem wcIn_b (n lo hi : Int) (w : World) (q : Bool) (hq : Hid (decide (lo ≤ n ∧ n ≤ hi) = q)) : Calls Try.prog 14 #[.int .i64 n, .int .i64 lo, .int .i64 hi] w fun e w' => e = .returned (.bool q) ∧ w' = w := by
  by_cases h1 : lo ≤ n
  · by_cases h2 : n ≤ hi
    · have HQ : Hid (q = true) := by show _ = _; rw [← hq.out]; simpa using ⟨h1, h2⟩
      go_enter Try.func14, Try.ntmps14
      go_wp2
      go_ret
      exact ⟨retBool HQ.out.symm, rfl⟩
    · have HQ : Hid (q = false) := by show _ = _; rw [← hq.out]; simp; omega
      go_enter Try.func14, Try.ntmps14
      go_wp2
      go_ret
      exact ⟨retBool HQ.out.symm, rfl⟩
  · have HQ : Hid (q = false) := by show _ = _; rw [← hq.out]; simp; omega
    go_enter Try.func14, Try.ntmps14
    go_wp2
    go_ret
    exact ⟨retBool HQ.out.symm, rfl⟩

end Go.Proofs.Ytbeecmcgdlnakaa
