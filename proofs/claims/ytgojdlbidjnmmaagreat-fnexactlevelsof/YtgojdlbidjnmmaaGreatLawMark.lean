import Derived.Test.YtgojdlbidjnmmaaGreatLawMarkA
namespace Go.Proofs.YtgojdlbidjnmmaaGreat
open Go.ChangeShapes Go.WideShapes Go.ChangeAt Go.RowKit
set_option linter.unusedSimpArgs false

set_option maxHeartbeats 2000000 in
theorem held_any (v : Value) (n : Nat) (k : Int) (w : World) (hv : Arg w v (marks k n)) (hl : n ≤ 1048576) (hk0 : 0 ≤ k) (hk1 : k ≤ 1000000000000) :
    Calls Tryz.prog 27 #[v, .int .i64 k] w fun e w' => e = .returned (.int .i64 (k + (n : Int))) ∧ w' = w := by
  rcases hv with ⟨a0, c0, rfl, e⟩ | ⟨g, off, cap, rfl, hgw, hlc, hcm, hat⟩
  · have e0 : n = 0 := by have := congrArg List.length e; rw [marks_len] at this; exact this
    subst e0
    go_enter Tryz.func27, Tryz.ntmps27
    go_wp2
    go_rounds 1
    go_ret
    exact ⟨retInt (by simp), rfl⟩
  · rw [marks_len] at *
    go_enter Tryz.func27, Tryz.ntmps27
    go_wp2
    go_loop [1, 5] (fun q i => ∃ (m : Nat), m ≤ n ∧ i = .int .i64 m ∧ q = .int .i64 (k + (m : Int))) (fun _ i => n - (intOf i).toNat)
    case atStart => exact ⟨0, Nat.zero_le _, rfl, by go_num⟩
    case round =>
      obtain ⟨m, hm, rfl, rfl⟩ := hrel
      by_cases hlt : m < n
      · have hc2 : w.cell? ⟨g, off + m, none⟩ = some (.int .i64 (k + (m : Int))) := by
          rw [hat m (by rw [marks_len]; exact hlt), fn_marks hlt]
        go_wp2
        go_round
        case rel => exact ⟨m + 1, by omega, by go_num, by go_num⟩
        case measure => simp only [intOf]; omega
      · have e : m = n := by omega
        subst e
        go_wp2
        go_ret
        exact ⟨rfl, rfl⟩
end Go.Proofs.YtgojdlbidjnmmaaGreat
