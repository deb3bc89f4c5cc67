import Derived.Test.YtbacfaddljjopaaImplBreaks
import Derived.Test.YtbacfaddljjopaaSpecBreaks
namespace Go.Proofs.Ytbacfaddljjopaa
open Go.ChangeShapes Go.WideShapes Go.ChangeAt Go.RowKit
set_option linter.unusedSimpArgs false

theorem brkN_L (l : List Int) : brkN (fn l) l.length l.length = brkL l := rfl

set_option maxHeartbeats 2000000 in
theorem implBreaks (v : Value) (l : List Int) (w : World) (hv : Arg w v l) (hl : l.length ≤ 1048576) :
    Calls Try.prog 44 #[v] w fun e w' => (∃ v', e = .returned v' ∧ OwnI w' w.heap.size v' (brkR l)) ∧ Below w.heap.size w w' := by
  cases hok : okF (fn l) l.length
  · have HC : Hid (brkR l = []) := show brkR l = [] by simp [brkR, hok]
    go_enter Try.func44, Try.ntmps44
    go_wp2_with (go_at_call 34; refine (implOk _ _ _ hv (by omega)).mono ?_; rintro e w' ⟨rfl, rfl⟩)
    go_ret
    exact ⟨⟨_, rfl, by rw [HC.out]; exact OwnI.nil _ _⟩, Below.refl _ _⟩
  · have HC : Hid (brkR l = brkL l) := show brkR l = _ by simp [brkR, hok]
    have hv2 := hv
    rcases hv with ⟨a0, c0, rfl, rfl⟩ | ⟨b, off, cap, rfl, hb, hlc, hcm, hat⟩
    · go_enter Try.func44, Try.ntmps44
      go_wp2_with (go_at_call 34; refine (implOk _ _ _ hv2 (by omega)).mono ?_; rintro e w' ⟨rfl, rfl⟩)
      go_ret
      exact ⟨⟨_, rfl, OwnI.nil _ _⟩, Below.refl _ _⟩
    · rw [HC.out]
      have h80 := okF_len hok
      obtain ⟨n, hn⟩ : ∃ n, l.length = n := ⟨_, rfl⟩
      rw [hn] at hok hlc h80 ⊢
      cases n with
      | zero =>
        have e0 : l = [] := List.eq_nil_of_length_eq_zero hn
        subst e0
        go_enter Try.func44, Try.ntmps44
        go_wp2_with (go_at_call 34; refine (implOk _ [] _ hv2 (by simp)).mono ?_; rintro e w' ⟨rfl, rfl⟩)
        go_ret
        exact ⟨⟨_, rfl, OwnI.nil _ _⟩, Below.refl _ _⟩
      | succ m => exact breaks_row b off cap m l w hn h80 hlc hcm hb hat hok

set_option maxHeartbeats 2000000 in
theorem specBreaks_nil (a : Option Addr) (cap : Nat) (w : World) :
    Calls Try.prog 76 #[.slice a 0 cap] w fun e w' => (∃ v', e = .returned v' ∧ OwnI w' w.heap.size v' []) ∧ Below w.heap.size w w' := by
  have ho := own_empty (w.alloc (.cells #[] 3)) w.heap.size 3 (by simp) rfl
  go_enter Try.func76, Try.ntmps76
  go_wp2
  go_rounds 1
  go_rounds 1
  go_ret
  exact ⟨⟨_, rfl, by simpa using ho⟩, by go_grown⟩

set_option maxHeartbeats 2000000 in
theorem specBreaks (v : Value) (l : List Int) (w : World) (hv : Arg w v l) (hl : l.length ≤ 1048576) :
    Calls Try.prog 43 #[v] w fun e w' => (∃ v', e = .returned v' ∧ OwnI w' w.heap.size v' (brkR l)) ∧ Below w.heap.size w w' := by
  cases hok : okF (fn l) l.length
  · have HC : Hid (brkR l = []) := show brkR l = [] by simp [brkR, hok]
    go_enter Try.func43, Try.ntmps43
    go_wp2_with (go_at_call 38; refine (specOk _ _ _ hv (by omega)).mono ?_; rintro e w' ⟨rfl, rfl⟩)
    go_ret
    exact ⟨⟨_, rfl, by rw [HC.out]; exact own_empty _ _ _ (Nat.le_refl _) rfl⟩, by go_grown⟩
  · have HC : Hid (brkR l = brkL l) := show brkR l = _ by simp [brkR, hok]
    have h80 := okF_len hok
    have HK : Hid _ := hok
    have hv2 := hv
    rcases hv with ⟨a0, c0, rfl, rfl⟩ | ⟨b, off, cap, rfl, hb, hlc, hcm, hat⟩
    · go_enter Try.func43, Try.ntmps43
      go_wp2_with (go_at_call 38; refine (specOk _ _ _ hv2 (by omega)).mono ?_; rintro e w' ⟨rfl, rfl⟩)
      refine (specBreaks_nil _ _ _).mono ?_
      rintro e w2 ⟨⟨v2, rfl, o2⟩, b2⟩
      go_wp2_with fail
      go_ret
      exact ⟨⟨_, rfl, o2⟩, b2⟩
    · by_cases h0 : l.length = 0
      · have e0 : l = [] := List.eq_nil_of_length_eq_zero h0
        subst e0
        go_enter Try.func43, Try.ntmps43
        go_wp2_with (go_at_call 38; refine (specOk _ [] _ hv2 (by simp)).mono ?_; rintro e w' ⟨rfl, rfl⟩)
        refine (specBreaks_nil _ _ _).mono ?_
        rintro e w2 ⟨⟨v2, rfl, o2⟩, b2⟩
        go_wp2_with fail
        go_ret
        exact ⟨⟨_, rfl, o2⟩, b2⟩
      · go_enter Try.func43, Try.ntmps43
        go_wp2_with (go_at_call 38; refine (specOk _ _ _ hv2 (by omega)).mono ?_; rintro e w' ⟨rfl, rfl⟩)
        refine (specBreaks_row b off cap l.length l _ rfl (by omega) h80 hb hat).mono ?_
        rintro e w2 ⟨⟨v2, rfl, o2⟩, b2⟩
        go_wp2_with fail
        go_ret
        exact ⟨⟨_, rfl, by rw [HC.out]; exact o2⟩, b2⟩
end Go.Proofs.Ytbacfaddljjopaa
