import Derived.Test.YtkdmfjnaajedhaaRows
import Derived.WalkKit
import Derived.ProofKit
import Derived.OpenShut
import Derived.Below
import Derived.Handy
namespace Go.Proofs.Ytkdmfjnaajedhaa

theorem ret_int {k : IntKind} {a b : Int} (h : a = b) : Ending.returned (.int k a) = .returned (.int k b) := by rw [h]
end Go.Proofs.Ytkdmfjnaajedhaa
namespace Go.Proofs.Ytkdmfjnaajedhaa
open Go.ChangeShapes Go.WideShapes Go.ChangeAt Go.RowKit
set_option linter.unusedSimpArgs false

def moves (r : Int) : Int :=
  if r = 8234 then 14 else if r = 8235 then 15 else if r = 8236 then 16 else if r = 8237 then 17 else if r = 8238 then 18 else
  if r = 8294 then 19 else if r = 8295 then 20 else if r = 8296 then 21 else if r = 8297 then 22 else 13

def signs (r : Int) : Int :=
  if r = 43 ∨ r = 45 then 5 else if 35 ≤ r ∧ r ≤ 37 then 6 else if r = 44 ∨ r = 46 ∨ r = 47 ∨ r = 58 then 8 else
  if 768 ≤ r ∧ r ≤ 879 then 9 else if r = 8203 ∨ r = 8205 ∨ r = 173 then 10 else if r = 9 then 11 else if r = 32 then 12 else moves r

def bidi (r : Int) : Int :=
  if (97 ≤ r ∧ r ≤ 122) ∨ (65 ≤ r ∧ r ≤ 90) ∨ (19968 ≤ r ∧ r ≤ 40959) then 1 else
  if 1488 ≤ r ∧ r ≤ 1514 then 2 else if 1569 ≤ r ∧ r ≤ 1610 then 3 else if 48 ≤ r ∧ r ≤ 57 then 4 else if 1632 ≤ r ∧ r ≤ 1641 then 7 else signs r

def inB (n lo hi : Int) : Bool := decide (lo ≤ n ∧ n ≤ hi)
theorem inB_true {n lo hi : Int} (h : inB n lo hi = true) : lo ≤ n ∧ n ≤ hi := by simpa [inB] using h
theorem inB_false {n lo hi : Int} (h : inB n lo hi = false) : ¬ (lo ≤ n ∧ n ≤ hi) := by simpa [inB] using h
theorem ret_bool {a b : Bool} (h : a = b) : Ending.returned (.bool a) = .returned (.bool b) := by rw [h]

set_option maxHeartbeats 1000000 in
theorem specIn (n lo hi : Int) (w : World) : Calls Try.prog 33 #[.int .i64 n, .int .i64 lo, .int .i64 hi] w fun e w' => e = .returned (.bool (inB n lo hi)) ∧ w' = w := by
  go_enter Try.func33, Try.ntmps33
  go_wp2
  all_goals (go_ret; refine ⟨ret_bool ?_, rfl⟩)
  all_goals (simp [inB])
  all_goals omega

end Go.Proofs.Ytkdmfjnaajedhaa
namespace Go.Proofs.Ytkdmfjnaajedhaa
set_option linter.unusedSimpArgs false

def letter (r : Int) : Bool := decide (0 ≤ r ∧ r ≤ 1114111 ∧ ¬ (55296 ≤ r ∧ r ≤ 57343))
def allB (p : Nat → Bool) : Nat → Bool
  | 0 => true
  | k + 1 => allB p k && p k
theorem allB_iff (p : Nat → Bool) (n : Nat) : allB p n = true ↔ ∀ j, j < n → p j = true := by
  induction n with
  | zero => simp [allB]
  | succ n ih =>
    simp only [allB, Bool.and_eq_true, ih]
    constructor
    · intro h j hj
      by_cases e : j = n
      · subst e; exact h.2
      · exact h.1 j (by omega)
    · intro h; exact ⟨fun j hj => h j (by omega), h n (by omega)⟩
theorem allB_false {p : Nat → Bool} {n k : Nat} (hk : k < n) (h : p k = false) : allB p n = false := by
  rw [Bool.eq_false_iff]; intro a; rw [allB_iff] at a; have := a k hk; rw [h] at this; cases this

def okF (z : Nat → Int) (len : Nat) : Bool := decide (len ≤ 80) && allB (fun j => letter (z j)) len

def flag (r : Int) : Bool := decide (127462 ≤ r ∧ r ≤ 127487)
def runOf (z : Nat → Int) : Nat → Nat
  | 0 => 0
  | k + 1 => if flag (z k) = true then runOf z k + 1 else 0
def joins (z : Nat → Int) (k : Nat) : Bool :=
  if z k = 10 ∨ z (k - 1) = 10 then decide (z (k - 1) = 13 ∧ z k = 10)
  else if bidi (z k) = 9 ∨ z k = 8205 then true
  else flag (z k) && decide (runOf z k % 2 = 1)
def begins (z : Nat → Int) (k : Nat) : Bool := decide (k = 0) || !(joins z k)
def starts (z : Nat → Int) : Nat → List Int
  | 0 => []
  | k + 1 => if begins z k = true then starts z k ++ [(k : Int)] else starts z k

def st (z : Nat → Int) : Nat → Int
  | 0 => 0
  | k + 1 => if z k = 13 then 2 else if z k = 10 then 3 else if flag (z k) = true ∧ st z k ≠ 4 then 4 else 1
def stJoins (s r : Int) : Bool :=
  if s = 0 then false else if s = 3 ∨ r = 10 then decide (s = 2 ∧ r = 10) else if bidi r = 9 ∨ r = 8205 then true else decide (s = 4) && flag r

theorem st_bounds (z : Nat → Int) (k : Nat) : 0 ≤ st z k ∧ st z k ≤ 4 := by
  cases k with
  | zero => simp [st]
  | succ k => simp only [st]; split <;> (try split) <;> (try split) <;> omega

theorem st_four (z : Nat → Int) (k : Nat) : st z k = 4 ↔ runOf z k % 2 = 1 := by
  induction k with
  | zero => simp [st, runOf]
  | succ k ih =>
    simp only [st, runOf]
    by_cases h13 : z k = 13
    · have hf : flag (z k) = false := by rw [h13]; decide
      simp [h13, hf]
      rw [h13] at hf; simp [hf]
    · by_cases h10 : z k = 10
      · have hf : flag (z k) = false := by rw [h10]; decide
        rw [if_neg h13, if_pos h10, hf]; simp
      · rw [if_neg h13, if_neg h10]
        by_cases hf : flag (z k) = true
        · by_cases h4 : st z k = 4
          · have := ih.1 h4
            rw [if_neg (by simp [h4]), if_pos hf]; omega
          · have h5 : ¬ runOf z k % 2 = 1 := fun h => h4 (ih.2 h)
            rw [if_pos ⟨hf, h4⟩, if_pos hf]; simp; omega
        · rw [if_neg (by simp [hf]), if_neg hf]; simp

theorem st_joins (z : Nat → Int) (k : Nat) : stJoins (st z k) (z k) = !(begins z k) := by
  cases k with
  | zero => simp [stJoins, st, begins]
  | succ k =>
    have h4 := st_four z (k + 1)
    have e0 : st z (k + 1) ≠ 0 := by
      simp only [st]; split <;> (try split) <;> (try split) <;> omega
    have e3 : st z (k + 1) = 3 ↔ z k = 10 := by
      simp only [st]; split
      · constructor <;> intro h <;> omega
      · split
        · simp_all
        · split <;> constructor <;> intro h <;> omega
    have e2 : st z (k + 1) = 2 ↔ z k = 13 := by
      simp only [st]; split
      · simp_all
      · split
        · simp_all
        · split <;> constructor <;> intro h <;> omega
    generalize st z (k + 1) = s at *
    simp only [stJoins, begins, joins, Nat.add_sub_cancel, e0, if_false, e3, e2]
    generalize runOf z (k + 1) = q at *
    by_cases h1 : z k = 10 ∨ z (k + 1) = 10
    · have h1' : z (k + 1) = 10 ∨ z k = 10 := h1.symm
      simp [h1, h1']
    · have h1' : ¬ (z (k + 1) = 10 ∨ z k = 10) := fun h => h1 h.symm
      simp only [h1, h1', if_false]
      by_cases h5 : bidi (z (k + 1)) = 9 ∨ z (k + 1) = 8205
      · simp [h5]
      · simp only [h5, if_false]
        by_cases h6 : s = 4
        · have := h4.1 h6; simp [h6, this]
        · have : ¬ q % 2 = 1 := fun h => h6 (h4.2 h)
          simp [h6, this]

theorem starts_len (z : Nat → Int) (n : Nat) : (starts z n).length ≤ n := by
  induction n with
  | zero => simp [starts]
  | succ n ih =>
    simp only [starts]; split
    · simp; omega
    · omega
theorem starts_lt (z : Nat → Int) (n : Nat) : ∀ x ∈ starts z n, 0 ≤ x ∧ x < n := by
  induction n with
  | zero => simp [starts]
  | succ n ih =>
    intro x hx
    simp only [starts] at hx
    split at hx
    · rw [List.mem_append] at hx
      rcases hx with hx | hx
      · have := ih x hx; omega
      · simp at hx; omega
    · have := ih x hx; omega
end Go.Proofs.Ytkdmfjnaajedhaa
