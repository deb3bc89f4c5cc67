import Derived.Test.YtgjhhfmhaalcnaaGlyAid
namespace Go.Proofs.Ytgjhhfmhaalcnaa
open Go.ChangeShapes Go.WideShapes Go.ChangeAt Go.RowKit
set_option linter.unusedSimpArgs false

def in1 (n lo hi : Int) : Bool := decide (lo ≤ n ∧ n ≤ hi)
theorem in1_yes {n lo hi : Int} (h : lo ≤ n ∧ n ≤ hi) : in1 n lo hi = true := by simpa [in1] using h
theorem in1_no {n lo hi : Int} (h : ¬ (lo ≤ n ∧ n ≤ hi)) : in1 n lo hi = false := by simpa [in1] using h
set_option maxHeartbeats 1000000 in
theorem specIn1 (n lo hi : Int) (w : World) : Calls Try.prog 36 #[.int .i64 n, .int .i64 lo, .int .i64 hi] w fun e w' => e = .returned (.bool (in1 n lo hi)) ∧ w' = w := by
  go_enter Try.func36, Try.ntmps36
  go_wp2
  all_goals (go_ret; refine ⟨retBool ?_, rfl⟩)
  all_goals (simp [in1])
  all_goals omega
theorem specIn1_is (n lo hi : Int) (w : World) (q : Bool) (hq : Hid (in1 n lo hi = q)) : Calls Try.prog 36 #[.int .i64 n, .int .i64 lo, .int .i64 hi] w fun e w' => e = .returned (.bool q) ∧ w' = w := by
  rw [← hq.out]; exact specIn1 n lo hi w

/-- A glyph stands within limits. -/
def glyOk (z : Nat → Int) (k : Nat) : Bool := in1 (z (k * 5 + 2)) (-40000) 40000 && in1 (z (k * 5 + 3)) 0 20000
theorem glyOk_yes {z : Nat → Int} {k : Nat} (h1 : in1 (z (k * 5 + 2)) (-40000) 40000 = true) (h2 : in1 (z (k * 5 + 3)) 0 20000 = true) : glyOk z k = true := by simp [glyOk, h1, h2]
theorem glyOk_no1 {z : Nat → Int} {k : Nat} (h1 : in1 (z (k * 5 + 2)) (-40000) 40000 = false) : glyOk z k = false := by simp [glyOk, h1]
theorem glyOk_no2 {z : Nat → Int} {k : Nat} (h1 : in1 (z (k * 5 + 3)) 0 20000 = false) : glyOk z k = false := by simp [glyOk, h1]
theorem glyOk_out {z : Nat → Int} {k : Nat} (h : glyOk z k = true) : (-40000 ≤ z (k * 5 + 2) ∧ z (k * 5 + 2) ≤ 40000) ∧ 0 ≤ z (k * 5 + 3) ∧ z (k * 5 + 3) ≤ 20000 := by
  simpa [glyOk, in1] using h
/-- The last glyph of k that is wide and stands up to x; the first that is wide, if there is none. -/
def hitF (z : Nat → Int) (x : Int) : Nat → Int
  | 0 => -1
  | k + 1 => if 0 < z (k * 5 + 3) ∧ (hitF z x k < 0 ∨ z (k * 5 + 2) ≤ x) then (k : Int) else hitF z x k
theorem hitF_yes {z : Nat → Int} {x : Int} {k : Nat} (h : 0 < z (k * 5 + 3) ∧ (hitF z x k < 0 ∨ z (k * 5 + 2) ≤ x)) : hitF z x (k + 1) = (k : Int) := by simp only [hitF]; rw [if_pos h]
theorem hitF_no {z : Nat → Int} {x : Int} {k : Nat} (h : ¬ (0 < z (k * 5 + 3) ∧ (hitF z x k < 0 ∨ z (k * 5 + 2) ≤ x))) : hitF z x (k + 1) = hitF z x k := by simp only [hitF]; rw [if_neg h]
theorem hitF_lt (z : Nat → Int) (x : Int) (n : Nat) : -1 ≤ hitF z x n ∧ hitF z x n < (n : Int) := by
  induction n with
  | zero => simp [hitF]
  | succ n ih =>
    simp only [hitF]
    split
    · omega
    · omega
def odd2 (v : Int) : Bool := !(v.tmod 2 == 0)
def hitAns (z : Nat → Int) (n : Nat) (fr x : Int) : Int × Bool :=
  if hitF z x n < 0 then (fr, false) else (z ((hitF z x n).toNat * 5), (decide (z ((hitF z x n).toNat * 5 + 3) ≤ 2 * (x - z ((hitF z x n).toNat * 5 + 2)))) != odd2 (z ((hitF z x n).toNat * 5 + 4)))
def lineHit (z : Nat → Int) (n : Nat) (fr x : Int) : Int × Bool :=
  if n ≤ 80 ∧ in1 x (-40000) 40000 = true ∧ ∀ k, k < n → glyOk z k = true then hitAns z n fr x else (0, false)
theorem lineHit_bad {z : Nat → Int} {n k : Nat} {fr x : Int} (hk : k < n) (h : glyOk z k = false) : lineHit z n fr x = (0, false) := by
  unfold lineHit; rw [if_neg]; intro hh; rw [hh.2.2 k hk] at h; cases h
theorem lineHit_long {z : Nat → Int} {n : Nat} {fr x : Int} (h : 80 < n) : lineHit z n fr x = (0, false) := by
  unfold lineHit; rw [if_neg]; omega
theorem lineHit_x {z : Nat → Int} {n : Nat} {fr x : Int} (h : in1 x (-40000) 40000 = false) : lineHit z n fr x = (0, false) := by
  unfold lineHit; rw [if_neg]; rw [h]; simp
theorem lineHit_is {z : Nat → Int} {n : Nat} {fr x : Int} (h : n ≤ 80) (hx : in1 x (-40000) 40000 = true) (hg : ∀ k, k < n → glyOk z k = true) : lineHit z n fr x = hitAns z n fr x := by
  unfold lineHit; rw [if_pos ⟨h, hx, hg⟩]
theorem retIB {r : Int × Bool} {a : Int} {b : Bool} (h : r = (a, b)) : Ending.returned (.tuple #[.int .i64 a, .bool b]) = .returned (.tuple #[.int .i64 r.1, .bool r.2]) := by rw [h]

set_option maxHeartbeats 1000000 in
theorem implPlaceOk (x : Int) (w : World) : Calls Try.prog 33 #[.int .i64 x] w fun e w' => e = .returned (.bool (in1 x (-40000) 40000)) ∧ w' = w := by
  go_enter Try.func33, Try.ntmps33
  go_wp2
  all_goals (go_ret; refine ⟨retBool ?_, rfl⟩)
  all_goals (simp [in1])
  all_goals omega
set_option maxHeartbeats 1000000 in
theorem implWideOk (x : Int) (w : World) : Calls Try.prog 51 #[.int .i64 x] w fun e w' => e = .returned (.bool (in1 x 0 20000)) ∧ w' = w := by
  go_enter Try.func51, Try.ntmps51
  go_wp2
  all_goals (go_ret; refine ⟨retBool ?_, rfl⟩)
  all_goals (simp [in1])
  all_goals omega
set_option maxHeartbeats 1000000 in
theorem implOdd (x : Int) (w : World) : Calls Try.prog 35 #[.int .i64 x] w fun e w' => e = .returned (.bool (odd2 x)) ∧ w' = w := by
  go_enter Try.func35, Try.ntmps35
  go_wp2
  all_goals (go_ret; refine ⟨retBool ?_, rfl⟩)
  all_goals (simp [odd2, bne])
set_option maxHeartbeats 1000000 in
theorem implPlaced (a r x d v : Int) (w : World) : Calls Try.prog 34 #[.agg #[.int .i64 a, .int .i64 r, .int .i64 x, .int .i64 d, .int .i64 v]] w fun e w' => e = .returned (.bool (in1 x (-40000) 40000 && in1 d 0 20000)) ∧ Below w.heap.size w w' := by
  by_cases h1 : in1 x (-40000) 40000 = true
  · have H1 : Hid _ := h1
    clear h1
    go_enter Try.func34, Try.ntmps34
    go_wp2_with fail
    refine (implPlaceOk _ _).mono ?_
    rintro e w1 ⟨rfl, rfl⟩
    rw [H1.out]
    go_wp2_with fail
    refine (implWideOk _ _).mono ?_
    rintro e w1 ⟨rfl, rfl⟩
    go_wp2_with fail
    go_ret
    exact ⟨retBool (by rw [H1.out]; simp), by go_grown⟩
  · have h2 : in1 x (-40000) 40000 = false := by simpa using h1
    have H1 : Hid _ := h2
    clear h1 h2
    go_enter Try.func34, Try.ntmps34
    go_wp2_with fail
    refine (implPlaceOk _ _).mono ?_
    rintro e w1 ⟨rfl, rfl⟩
    rw [H1.out]
    go_wp2_with fail
    go_ret
    exact ⟨retBool (by rw [H1.out]; simp), by go_grown⟩
end Go.Proofs.Ytgjhhfmhaalcnaa
