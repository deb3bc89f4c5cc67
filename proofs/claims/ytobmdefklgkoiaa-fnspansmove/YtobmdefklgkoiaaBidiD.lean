import Derived.Test.YtobmdefklgkoiaaBase
namespace Go.Proofs.Ytobmdefklgkoiaa
open Go.ChangeShapes Go.WideShapes Go.ChangeAt Go.RowKit
set_option linter.unusedSimpArgs false

def moves (r : Int) : Int :=
  if r = 8234 then 14 else if r = 8235 then 15 else if r = 8236 then 16 else if r = 8237 then 17 else if r = 8238 then 18 else
  if r = 8294 then 19 else if r = 8295 then 20 else if r = 8296 then 21 else if r = 8297 then 22 else 13

def signs (r : Int) : Int :=
  if r = 43 ∨ r = 45 then 5 else if 35 ≤ r ∧ r ≤ 37 then 6 else if r = 44 ∨ r = 46 ∨ r = 47 ∨ r = 58 then 8 else
  if 768 ≤ r ∧ r ≤ 879 then 9 else if r = 8203 ∨ r = 8205 ∨ r = 173 then 10 else if r = 9 then 11 else if r = 32 then 12 else moves r

def bidi (r : Int) : Int :=
  if (97 ≤ r ∧ r ≤ 122) ∨ (65 ≤ r ∧ r ≤ 90) ∨ (19968 ≤ r ∧ r ≤ 40959) then 1 else
  if 1488 ≤ r ∧ r ≤ 1514 then 2 else if 1569 ≤ r ∧ r ≤ 1610 then 3 else if 48 ≤ r ∧ r ≤ 57 then 4 else if 1632 ≤ r ∧ r ≤ 1641 then 7 else signs r

def inB (n lo hi : Int) : Bool := decide (lo ≤ n ∧ n ≤ hi)
theorem inB_true {n lo hi : Int} (h : inB n lo hi = true) : lo ≤ n ∧ n ≤ hi := by simpa [inB] using h
theorem inB_false {n lo hi : Int} (h : inB n lo hi = false) : ¬ (lo ≤ n ∧ n ≤ hi) := by simpa [inB] using h
theorem ret_bool {a b : Bool} (h : a = b) : Ending.returned (.bool a) = .returned (.bool b) := by rw [h]

set_option maxHeartbeats 1000000 in
theorem specIn (n lo hi : Int) (w : World) : Calls Try.prog 39 #[.int .i64 n, .int .i64 lo, .int .i64 hi] w fun e w' => e = .returned (.bool (inB n lo hi)) ∧ w' = w := by
  go_enter Try.func39, Try.ntmps39
  go_wp2
  all_goals (go_ret; refine ⟨ret_bool ?_, rfl⟩)
  all_goals (simp [inB])
  all_goals omega

end Go.Proofs.Ytobmdefklgkoiaa
