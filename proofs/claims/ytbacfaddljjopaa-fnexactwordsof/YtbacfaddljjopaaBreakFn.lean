import Derived.Test.YtbacfaddljjopaaOneOf
import Derived.Test.YtbacfaddljjopaaGrow
import Derived.Deep.RegionWith
import Derived.Deep.DrawnRows
namespace Go.Proofs.Ytbacfaddljjopaa
open Go.ChangeShapes Go.WideShapes Go.ChangeAt Go.RowKit
set_option linter.unusedSimpArgs false
attribute [local go_sem ↓] Go.wp_at_zero Go.wp_at_succ

set_option maxHeartbeats 1000000 in
theorem bears_any (x : Int) (w : World) : Calls Try.prog 79 #[.int .i64 x] w fun e w' => e = .returned (.bool (!memB x [0, 3, 4, 6])) ∧ Below w.heap.size w w' := by
  go_enter Try.func79, Try.ntmps79
  go_wp2_with fail
  refine (oneOf_any _ 0 _ 4 [0, 3, 4, 6] x _ rfl (by omega) (at4 w _ 0 3 4 6)).mono ?_
  rintro e w1 ⟨rfl, rfl⟩
  go_wp2_with fail
  go_ret
  exact ⟨rfl, by go_grown⟩

def withinB (a b : Int) : Bool :=
  if memB a [1, 2] = true ∧ (memB b [1, 2] = true ∨ b = 8) then true else if a = 12 then decide (b = 2) else memB b [1, 2] && memB a [13, 9]
theorem beq_dec (a b : Int) : (a == b) = decide (a = b) := rfl
set_option maxHeartbeats 2000000 in
theorem within_any (a b : Int) (w : World) : Calls Try.prog 118 #[.int .i64 a, .int .i64 b] w fun e w' => e = .returned (.bool (withinB a b)) ∧ Below w.heap.size w w' := by
  obtain ⟨p, hp⟩ : ∃ p, memB a [1, 2] = p := ⟨_, rfl⟩
  obtain ⟨q, hq⟩ : ∃ q, memB b [1, 2] = q := ⟨_, rfl⟩
  obtain ⟨r, hr⟩ : ∃ r, memB a [13, 9] = r := ⟨_, rfl⟩
  obtain ⟨R, hR⟩ : ∃ R, withinB a b = R := ⟨_, rfl⟩
  have HW : Hid (R = if p = true ∧ (q = true ∨ b = 8) then true else if a = 12 then decide (b = 2) else q && r) := by
    show _ = _
    rw [← hR, ← hp, ← hq, ← hr]; rfl
  rw [hR]
  have HP : Hid _ := hp
  have HQ : Hid _ := hq
  have HR : Hid _ := hr
  clear hp hq hr hR
  go_enter Try.func118, Try.ntmps118
  go_wp2_with fail
  refine (oneOf_is _ 0 _ 2 [1, 2] a _ rfl (by omega) (at2b (by simp)) p HP).mono ?_
  rintro e w1 ⟨rfl, rfl⟩
  go_wp2_with fail
  refine (oneOf_is _ 0 _ 2 [1, 2] b _ rfl (by omega) (at2b (by simp)) q HQ).mono ?_
  rintro e w1 ⟨rfl, rfl⟩
  have B1 : Below w.heap.size w ((w.alloc (.cells #[.int .i64 1, .int .i64 2] 3)).alloc (.cells #[.int .i64 1, .int .i64 2] 3)) := by go_grown
  cases p with
  | true =>
    cases q with
    | true =>
      go_wp2_with fail
      go_ret
      exact ⟨retBool (by rw [HW.out]; simp), B1⟩
    | false =>
      by_cases h8 : b = 8
      · subst h8
        go_wp2_with fail
        go_ret
        exact ⟨retBool (by rw [HW.out]; simp), B1⟩
      · have g8 : (b == 8) = false := by simpa using h8
        by_cases h12 : a = 12
        · subst h12
          go_wp2_with fail
          go_ret
          exact ⟨retBool (by rw [HW.out]; simp [h8, beq_dec]), B1⟩
        · have g12 : (a == 12) = false := by simpa using h12
          go_wp2_with fail
          go_ret
          exact ⟨retBool (by rw [HW.out]; simp [h8, h12]), B1⟩
  | false =>
    by_cases h12 : a = 12
    · subst h12
      go_wp2_with fail
      go_ret
      exact ⟨retBool (by rw [HW.out]; simp [beq_dec]), B1⟩
    · have g12 : (a == 12) = false := by simpa using h12
      cases q with
      | true =>
        go_wp2_with fail
        refine (oneOf_is _ 0 _ 2 [13, 9] a _ rfl (by omega) (at2b (by simp)) r HR).mono ?_
        rintro e w1 ⟨rfl, rfl⟩
        go_wp2_with fail
        go_ret
        exact ⟨retBool (by rw [HW.out]; simp [h12]), B1.alloc (by simp; omega) _⟩
      | false =>
        go_wp2_with fail
        go_ret
        exact ⟨retBool (by rw [HW.out]; simp [h12]), B1⟩

def pickA (q : Bool) (x : Int) : Int := if q = true then x else -1
set_option maxHeartbeats 1000000 in
theorem answer_any (x : Int) (q : Bool) (w : World) : Calls Try.prog 108 #[.int .i64 x, .bool q] w fun e w' => e = .returned (.int .i64 (pickA q x)) ∧ w' = w := by
  cases q with
  | true =>
    go_enter Try.func108, Try.ntmps108
    go_wp2_with fail
    go_ret
    exact ⟨rfl, rfl⟩
  | false =>
    go_enter Try.func108, Try.ntmps108
    go_wp2_with fail
    go_ret
    exact ⟨rfl, rfl⟩
end Go.Proofs.Ytbacfaddljjopaa
