import Derived.Test.YteefeciiaekdlaaImplRuns
import Derived.Test.YteefeciiaekdlaaSpecRuns
namespace Go.Proofs.Yteefeciiaekdlaa
open Go.ChangeShapes Go.WideShapes Go.ChangeAt Go.RowKit
set_option linter.unusedSimpArgs false

theorem emptyR (w : World) : OwnR (w.alloc (.cells #[] 33)) w.heap.size (.slice (some ⟨w.heap.size, 0, none⟩) 0 0) 0 [] :=
  ⟨by simp, .inr ⟨w.heap.size, 0, #[], rfl, Nat.le_refl _, heap_alloc_new w _, Nat.le_refl _, by unfold maxLen; omega, rfl, rfl⟩⟩
theorem runsR_len (lv : List Int) : (runsR lv).length ≤ 243 := by
  unfold runsR
  split
  · rename_i h
    obtain ⟨m, h1, h2⟩ := rS_len (fn lv) lv.length
    have := lvF_len h.1
    simp [flat, h1]; omega
  · simp

set_option maxHeartbeats 2000000 in
theorem implRuns (v : Value) (l : List Int) (w : World) (hv : Arg w v l) (hl : l.length ≤ 4194304) :
    Calls Try.prog 42 #[v] w fun e w' => (∃ v' m, e = .returned v' ∧ OwnR w' w.heap.size v' m (runsR l)) ∧ Below w.heap.size w w' := by
  have HO := implLv v l w hv hl
  cases hok : lvF (fn l) l.length
  · have HC : Hid (runsR l = []) := show runsR l = [] by simp [runsR, hok]
    rw [hok] at HO
    rcases hv with ⟨a0, c0, rfl, rfl⟩ | ⟨b, off, cap, rfl, hb, hlc, hcm, hat⟩
    all_goals
      go_enter Try.func42, Try.ntmps42
      go_wp2_with (go_at_call 60; refine HO.mono ?_; rintro e w' ⟨rfl, rfl⟩)
      go_ret
      exact ⟨⟨_, 0, rfl, by rw [HC.out]; exact OwnR.nil _ _⟩, Below.refl _ _⟩
  · rw [hok] at HO
    have h80 := lvF_len hok
    by_cases h0 : l.length = 0
    · have e : l = [] := List.eq_nil_of_length_eq_zero h0
      subst e
      have hv2 : ∃ a c, v = .slice a 0 c := by
        rcases hv with ⟨a0, c0, rfl, _⟩ | ⟨b, off, cap, rfl, _⟩
        · exact ⟨_, _, rfl⟩
        · exact ⟨_, _, rfl⟩
      obtain ⟨a, c, rfl⟩ := hv2
      go_enter Try.func42, Try.ntmps42
      go_wp2_with (go_at_call 60; refine HO.mono ?_; rintro e w' ⟨rfl, rfl⟩)
      go_ret
      exact ⟨⟨_, 0, rfl, OwnR.nil _ _⟩, Below.refl _ _⟩
    · rcases hv with ⟨a0, c0, rfl, rfl⟩ | ⟨b, off, cap, rfl, hb, hlc, hcm, hat⟩
      · exact absurd rfl h0
      · have e : runsR l = flat (fn l) l.length := by simp [runsR, hok, h0]
        rw [e]
        exact implRuns_row b off cap l.length l w rfl (by omega) h80 hlc hcm hb hat hok

set_option maxHeartbeats 2000000 in
theorem specRuns (v : Value) (l : List Int) (w : World) (hv : Arg w v l) (hl : l.length ≤ 4194304) :
    Calls Try.prog 44 #[v] w fun e w' => (∃ v' m, e = .returned v' ∧ OwnR w' w.heap.size v' m (runsR l)) ∧ Below w.heap.size w w' := by
  have hB0 : Below w.heap.size w (w.alloc (.cells #[] 33)) := (Below.refl _ _).alloc (Nat.le_refl _) _
  have HO := specLv v l _ (hv.below hB0) hl
  cases hok : lvF (fn l) l.length
  · have HC : Hid (runsR l = []) := show runsR l = [] by simp [runsR, hok]
    rw [hok] at HO
    go_enter Try.func44, Try.ntmps44
    go_wp2_with (go_at_call 62; refine HO.mono ?_; rintro e w' ⟨rfl, rfl⟩)
    go_ret
    exact ⟨⟨_, 0, rfl, by rw [HC.out]; exact emptyR _⟩, hB0⟩
  · rw [hok] at HO
    have h80 := lvF_len hok
    by_cases h0 : l.length = 0
    · have e : l = [] := List.eq_nil_of_length_eq_zero h0
      subst e
      have hv2 : ∃ a c, v = .slice a 0 c := by
        rcases hv with ⟨a0, c0, rfl, _⟩ | ⟨b, off, cap, rfl, _⟩
        · exact ⟨_, _, rfl⟩
        · exact ⟨_, _, rfl⟩
      obtain ⟨a, c, rfl⟩ := hv2
      go_enter Try.func44, Try.ntmps44
      go_wp2_with (go_at_call 62; refine HO.mono ?_; rintro e w' ⟨rfl, rfl⟩)
      go_rounds 1
      go_ret
      exact ⟨⟨_, 0, rfl, emptyR _⟩, hB0⟩
    · rcases hv with ⟨a0, c0, rfl, rfl⟩ | ⟨b, off, cap, rfl, hb, hlc, hcm, hat⟩
      · exact absurd rfl h0
      · have e : runsR l = flat (fn l) l.length := by simp [runsR, hok, h0]
        rw [e]
        exact specRuns_row b off cap l.length l w rfl (by omega) h80 hlc hcm hb hat hok
end Go.Proofs.Yteefeciiaekdlaa
