import Derived.Test.YtbacfaddljjopaaBreakRules
import Derived.Test.YtbacfaddljjopaaClusMath
import Derived.Test.YtbacfaddljjopaaLineMath
namespace Go.Proofs.Ytbacfaddljjopaa
open Go.RowKit
set_option linter.unusedSimpArgs false

/-- The first answer of the last d rules. -/
def plA (h n s : Int) : Nat → Int
  | 0 => 1
  | d + 1 => if ans h n s (9 - (d + 1)) = -1 then plA h n s d else ans h n s (9 - (d + 1))
def place (h n s : Int) : Int := plA h n s 9
theorem plA_hit {h n s : Int} {k : Nat} (hk : k < 9) (e : ans h n s k ≠ -1) : plA h n s (9 - k) = ans h n s k := by
  obtain ⟨m, hm⟩ : ∃ m, 9 - k = m + 1 := ⟨9 - k - 1, by omega⟩
  have e1 : 9 - (m + 1) = k := by omega
  rw [hm]; simp only [plA, e1]; rw [if_neg e]
theorem plA_miss {h n s : Int} {k : Nat} (hk : k < 9) (e : ans h n s k = -1) : plA h n s (9 - k) = plA h n s (9 - (k + 1)) := by
  obtain ⟨m, hm⟩ : ∃ m, 9 - k = m + 1 := ⟨9 - k - 1, by omega⟩
  have e1 : 9 - (m + 1) = k := by omega
  have e2 : 9 - (k + 1) = m := by omega
  rw [hm, e2]; simp only [plA, e1]; rw [if_pos e]
theorem pickA_yes {q : Bool} {x : Int} (h : q = true) : pickA q x = x := by simp [pickA, h]
theorem pickA_no {q : Bool} {x : Int} (h : q = false) : pickA q x = -1 := by simp [pickA, h]
/-- The rules written out. -/
theorem place_eq (h n s : Int) : place h n s =
    if ruleC h n s 0 = true then 2 else if ruleC h n s 1 = true then 0 else if ruleC h n s 2 = true then 1 else if ruleC h n s 3 = true then 0 else if ruleC h n s 4 = true then 0 else
    if ruleC h n s 5 = true then 0 else if ruleC h n s 6 = true then 1 else if ruleC h n s 7 = true then 0 else if ruleC h n s 8 = true then 0 else 1 := by
  have step : ∀ k, k < 9 → ∀ r : Int, (ruleX k ≠ -1) → plA h n s (9 - (k + 1)) = r → plA h n s (9 - k) = if ruleC h n s k = true then ruleX k else r := by
    intro k hk r hx hr
    by_cases c : ruleC h n s k = true
    · rw [if_pos c, plA_hit hk (by rw [ans, pickA_yes c]; exact hx), ans, pickA_yes c]
    · rw [if_neg c, plA_miss hk (by rw [ans, pickA_no (by simpa using c)]), hr]
  exact step 0 (by omega) _ (by decide) (step 1 (by omega) _ (by decide) (step 2 (by omega) _ (by decide) (step 3 (by omega) _ (by decide) (step 4 (by omega) _ (by decide) (step 5 (by omega) _ (by decide) (step 6 (by omega) _ (by decide) (step 7 (by omega) _ (by decide) (step 8 (by omega) _ (by decide) rfl))))))))

/-- As what each letter counts. -/
def bearB (c : Int) : Bool := !memB c [0, 3, 4, 6]
def ctd (z : Nat → Int) : Nat → Int
  | 0 => if lineI (z 0) = 7 then 1 else lineI (z 0)
  | k + 1 => if lineI (z (k + 1)) = 7 then (if bearB (ctd z k) = true then ctd z k else 1) else lineI (z (k + 1))
/-- What is ahead of a letter; 0, if there is none. -/
def ahC (z : Nat → Int) : Nat → Int
  | 0 => 0
  | k + 1 => ctd z k
theorem ctd_ah (z : Nat → Int) (k : Nat) : ctd z k = if lineI (z k) = 7 then (if bearB (ahC z k) = true then ahC z k else 1) else lineI (z k) := by
  cases k with
  | zero => by_cases c : lineI (z 0) = 7 <;> simp [ctd, ahC, c, show bearB 0 = false by decide]
  | succ k => rfl
theorem line_rng (r : Int) : 1 ≤ lineI r ∧ lineI r ≤ 15 := by rw [line_same]; exact lineS_rng r
theorem ctd_rng (z : Nat → Int) (k : Nat) : 1 ≤ ctd z k ∧ ctd z k ≤ 15 := by
  induction k with
  | zero => have := line_rng (z 0); simp only [ctd]; split <;> omega
  | succ k ih => have := line_rng (z (k + 1)); simp only [ctd]; split <;> (try split) <;> omega
theorem bear_pos {c : Int} (h : 1 ≤ c) : bearB c = decide (¬ (c = 3 ∨ c = 4 ∨ c = 6)) := by
  have h0 : c ≠ 0 := by omega
  unfold bearB memB
  rw [Bool.eq_iff_iff]
  simp only [List.mem_cons, List.not_mem_nil, Bool.not_eq_true', decide_eq_false_iff_not, decide_eq_true_eq]
  constructor
  · intro a b; apply a; rcases b with b | b | b <;> simp [b]
  · intro a b; apply a; rcases b with b | b | b | b | b
    · exact absurd b h0
    · exact .inl b
    · exact .inr (.inl b)
    · exact .inr (.inr b)
    · exact absurd b (by simp)
/-- The last up to a letter that is no blank; 0, if there is none. -/
def solC (z : Nat → Int) : Nat → Int
  | 0 => 0
  | k + 1 => if ctd z k = 3 then solC z k else ctd z k
def brkAt (z : Nat → Int) (n k : Nat) : Int :=
  if k + 1 = n then 2 else if joins z (k + 1) = true ∨ (lineI (z (k + 1)) = 7 ∧ bearB (ctd z k) = true) then 0 else place (ctd z k) (ctd z (k + 1)) (solC z (k + 1))
def brkL (l : List Int) : List Int := (List.range l.length).map (brkAt (fn l) l.length)
theorem brkL_len (l : List Int) : (brkL l).length = l.length := by simp [brkL]
theorem fn_brkL {l : List Int} {j : Nat} (h : j < l.length) : fn (brkL l) j = brkAt (fn l) l.length j := by simp [fn, brkL, h]
def ctdL (l : List Int) : List Int := (List.range l.length).map (ctd (fn l))
theorem ctdL_len (l : List Int) : (ctdL l).length = l.length := by simp [ctdL]
theorem fn_ctdL {l : List Int} {j : Nat} (h : j < l.length) : fn (ctdL l) j = ctd (fn l) j := by simp [fn, ctdL, h]
def brkR (l : List Int) : List Int := if okF (fn l) l.length = true then brkL l else []
theorem brkR_len (l : List Int) : (brkR l).length ≤ l.length := by
  unfold brkR; split
  · rw [brkL_len]; exact Nat.le_refl _
  · simp
end Go.Proofs.Ytbacfaddljjopaa
