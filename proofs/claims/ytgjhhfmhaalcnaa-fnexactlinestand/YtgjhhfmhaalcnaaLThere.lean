import Derived.Test.YtgjhhfmhaalcnaaLWideE
namespace Go.Proofs.Ytgjhhfmhaalcnaa
open Go.ChangeShapes Go.WideShapes Go.ChangeAt Go.RowKit
set_option linter.unusedSimpArgs false

def wOk (y : Nat → Int) (m : Nat) : Bool := allB (fun j => inB (y j) 0 20000) m
theorem wOk_yes {y : Nat → Int} {m : Nat} (h : ∀ j, j < m → inB (y j) 0 20000 = true) : wOk y m = true := (allB_iff _ _).2 h
theorem wOk_no {y : Nat → Int} {m k : Nat} (hk : k < m) (h : inB (y k) 0 20000 = false) : wOk y m = false := allB_false (p := fun j => inB (y j) 0 20000) hk h
theorem wOk_out {y : Nat → Int} {m : Nat} (h : wOk y m = true) : ∀ j, j < m → 0 ≤ y j ∧ y j ≤ 20000 := fun j hj => by
  have := (allB_iff _ _).1 h j hj; simpa [inB] using this
def lw (z y : Nat → Int) (n m : Nat) (f t : Int) : Int :=
  if okF z n = true ∧ m = n ∧ wOk y m = true ∧ 0 ≤ f ∧ f ≤ t ∧ t ≤ (n : Int) then lineSum z y f.toNat t.toNat else 0

set_option maxHeartbeats 1000000 in
theorem implWOk (x : Int) (w : World) : Calls Try.prog 51 #[.int .i64 x] w fun e w' => e = .returned (.bool (inB x 0 20000)) ∧ w' = w := by
  go_enter Try.func51, Try.ntmps51
  go_wp2
  all_goals (go_ret; refine ⟨retBool ?_, rfl⟩)
  all_goals (simp [inB])
  all_goals omega
def thereB (n : Nat) (f t : Int) : Bool := decide (0 ≤ f ∧ f ≤ t ∧ t ≤ (n : Int))
set_option maxHeartbeats 1000000 in
theorem implThere (a : Option Addr) (n cap : Nat) (f t : Int) (w : World) : Calls Try.prog 77 #[.slice a n cap, .int .i64 f, .int .i64 t] w fun e w' => e = .returned (.bool (thereB n f t)) ∧ w' = w := by
  go_enter Try.func77, Try.ntmps77
  go_wp2
  all_goals (go_ret; refine ⟨retBool ?_, rfl⟩)
  all_goals (unfold thereB; by_cases q : t ≤ (n : Int) <;> simp [q] <;> omega)
end Go.Proofs.Ytgjhhfmhaalcnaa
