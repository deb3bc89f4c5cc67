import Derived.Test.YtobmdefklgkoiaaSpanOk3
namespace Go.Proofs.Ytobmdefklgkoiaa
open Go.ChangeShapes Go.WideShapes Go.ChangeAt Go.RowKit
set_option linter.unusedSimpArgs false

set_option maxHeartbeats 2000000 in
theorem implSpansOk (v : Value) (n : Nat) (l : List Int) (c : Int) (w : World) (hv : ArgS w v n l) :
    Calls Try.prog 13 #[v, .int .i64 c] w fun e w' => e = .returned (.bool (spansOk (fn l) n c)) ∧ Below w.heap.size w w' := by
  rcases hv with ⟨a, cap, rfl, rfl⟩ | ⟨b, cap, rfl, hb, hlc, _, hat⟩
  · by_cases hc : inB c 0 80 = true
    · obtain ⟨h1, h2⟩ := inB_true hc
      have HR : Hid _ := spansOk_yes (z := fn l) (n := 0) h1 h2 (by omega) (fun j hj => by omega)
      clear hc
      go_enter Try.func13, Try.ntmps13
      go_wp2_with fail
      go_rounds 1
      go_ret
      exact ⟨retBool HR.out.symm, Below.refl _ _⟩
    · have hc2 := inB_false (by simpa using hc)
      have HR : Hid _ := spansOk_bad (z := fn l) (n := 0) (c := c) (by omega)
      by_cases q1 : c < 0
      · clear hc hc2
        go_enter Try.func13, Try.ntmps13
        go_wp2_with fail
        go_ret
        exact ⟨retBool HR.out.symm, Below.refl _ _⟩
      · have q2 : 80 < c := by omega
        clear hc hc2
        go_enter Try.func13, Try.ntmps13
        go_wp2_with fail
        go_ret
        exact ⟨retBool HR.out.symm, Below.refl _ _⟩
  · exact implSpansOk_row b cap n l c w hb hlc hat

set_option maxHeartbeats 2000000 in
theorem specSpansOk (v : Value) (n : Nat) (l : List Int) (c : Int) (w : World) (hv : ArgS w v n l) (hbig : n ≤ 1048576) :
    Calls Try.prog 14 #[v, .int .i64 c] w fun e w' => e = .returned (.bool (spansOk (fn l) n c)) ∧ Below w.heap.size w w' := by
  rcases hv with ⟨a, cap, rfl, rfl⟩ | ⟨b, cap, rfl, hb, hlc, _, hat⟩
  · go_enter Try.func14, Try.ntmps14
    go_wp2_with fail
    go_rounds 1
    all_goals (go_ret; refine ⟨retBool ?_, Below.refl _ _⟩)
    all_goals (simp [spansOk, allS]; omega)
  · by_cases hc : inB c 0 80 = true
    · obtain ⟨h1, h2⟩ := inB_true hc
      exact specSpansOk_row b cap n l c w hb hlc hbig hat h1 h2
    · have hc1 : inB c 0 80 = false := by simpa using hc
      have hc2 := inB_false hc1
      rw [spansOk_bad (by omega)]
      exact specSpansOk_no b cap n l c w hb hlc hbig hat hc1

end Go.Proofs.Ytobmdefklgkoiaa
