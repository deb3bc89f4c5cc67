import Derived.Test.YteefeciiaekdlaaScrSpec
namespace Go.Proofs.Yteefeciiaekdlaa
open Go.ChangeShapes Go.WideShapes Go.ChangeAt Go.RowKit
set_option linter.unusedSimpArgs false

set_option maxHeartbeats 1000000 in
theorem specScriptsA (v : Value) (l : List Int) (w : World) (hv : Arg w v l) (hl : l.length ≤ 80) :
    Calls Try.prog 39 #[v] w fun e w' => (∃ v', e = .returned v' ∧ OwnI w' w.heap.size v' (scrOut (fn l) (firstS (fn l) l.length l.length) l.length)) ∧ Below w.heap.size w w' := by
  rcases hv with ⟨a0, c0, rfl, rfl⟩ | ⟨b, off, cap, rfl, hb, hlc, hcm, hat⟩
  · have hf : ∀ w', Calls Try.prog 57 #[.slice a0 0 c0] w' fun e w'' => e = .returned (.int .i64 0) ∧ w'' = w' := fun w' => by
      go_enter Try.func57, Try.ntmps57
      go_wp2
      go_rounds 1
      go_ret
      exact ⟨rfl, rfl⟩
    go_enter Try.func39, Try.ntmps39
    go_wp2_with fail
    refine (hf _).mono ?_
    rintro e w1 ⟨rfl, rfl⟩
    go_wp2_with fail
    go_rounds 1
    go_ret
    refine ⟨⟨_, rfl, ?_⟩, by go_grown⟩
    exact World.ownsRow.alloc (own_empty w w.heap.size 3 (Nat.le_refl _) rfl) _
  · exact specScripts b off cap l.length l w rfl hb hat hl

set_option maxHeartbeats 1000000 in
theorem specScriptsOf (v : Value) (l : List Int) (w : World) (hv : Arg w v l) (hl : l.length ≤ 1048576) :
    Calls Try.prog 12 #[v] w fun e w' => (∃ v', e = .returned v' ∧ OwnI w' w.heap.size v' (scripts l)) ∧ Below w.heap.size w w' := by
  have HV : Hid (Arg w v l) := hv
  clear hv
  by_cases hok : okF (fn l) l.length = true
  · have HS : Hid _ := scripts_ok hok
    have h80 := okF_len hok
    have HOK : Hid _ := hok
    clear hok
    go_enter Try.func12, Try.ntmps12
    go_wp2_with fail
    refine (specOk _ l _ HV.out (by omega)).mono ?_
    rintro e w1 ⟨rfl, rfl⟩
    rw [HOK.out]
    go_wp2_with fail
    refine (specScriptsA _ l _ HV.out h80).mono ?_
    rintro e w2 ⟨⟨v2, rfl, o2⟩, b2⟩
    go_wp2_with fail
    go_ret
    exact ⟨⟨_, rfl, by rw [HS.out]; exact o2⟩, b2⟩
  · have hok2 : okF (fn l) l.length = false := by simpa using hok
    have HS : Hid _ := scripts_bad hok2
    have HOK : Hid (okF (fn l) l.length = false) := hok2
    clear hok hok2
    go_enter Try.func12, Try.ntmps12
    go_wp2_with fail
    refine (specOk _ l _ HV.out (by omega)).mono ?_
    rintro e w1 ⟨rfl, rfl⟩
    rw [HOK.out]
    go_wp2_with fail
    go_ret
    exact ⟨⟨_, rfl, by rw [HS.out]; exact own_empty w1 w1.heap.size 3 (Nat.le_refl _) rfl⟩, by go_grown⟩
end Go.Proofs.Yteefeciiaekdlaa
