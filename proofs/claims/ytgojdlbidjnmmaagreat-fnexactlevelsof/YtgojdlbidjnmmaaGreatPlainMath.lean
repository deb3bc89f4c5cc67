import Derived.Test.YtgojdlbidjnmmaaGreatMem
namespace Go.Proofs.YtgojdlbidjnmmaaGreat
set_option linter.unusedSimpArgs false

def noP (c : Int) : Bool := decide ((11 ≤ c ∧ c ≤ 13) ∨ 19 ≤ c)
def like (c : Int) : Int := if c = 1 then 1 else if c = 2 ∨ c = 4 ∨ c = 7 then 2 else 0
def ownOf (lv : Int) : Int := if lv % 2 = 0 then 1 else 2
def among (a b lv : Int) : Int := if like a = 0 ∨ like a ≠ like b then ownOf lv else like a
def ahP (z : Nat → Int) (before : Int) : Nat → Int
  | 0 => before
  | k + 1 => if noP (z k) = true then ahP z before k else z k
def bhP (z : Nat → Int) (n : Nat) (after : Int) : Nat → Int
  | 0 => after
  | d + 1 => if noP (z (n - (d + 1))) = true then bhP z n after d else z (n - (d + 1))
def plainAt (z : Nat → Int) (n : Nat) (before after lv : Int) (k : Nat) : Int :=
  if noP (z k) = true then among (ahP z before k) (bhP z n after (n - k)) lv else z k
def plainL (l : List Int) (before after lv : Int) : List Int := (List.range l.length).map (plainAt (fn l) l.length before after lv)
theorem plainL_len (l : List Int) (b a lv : Int) : (plainL l b a lv).length = l.length := by simp [plainL]
theorem fn_plainL {l : List Int} {b a lv : Int} {j : Nat} (h : j < l.length) : fn (plainL l b a lv) j = plainAt (fn l) l.length b a lv j := by simp [fn, plainL, h]
theorem ahP_run {z : Nat → Int} {before : Int} {f t : Nat} (hft : f ≤ t) (h : ∀ j, f ≤ j → j < t → noP (z j) = true) : ahP z before t = ahP z before f := by
  induction t with
  | zero => have : f = 0 := by omega
            subst this; rfl
  | succ t ih =>
    by_cases e : f = t + 1
    · subst e; rfl
    · simp only [ahP]
      rw [if_pos (h t (by omega) (by omega))]
      exact ih (by omega) (fun j a b => h j a (by omega))
theorem bhP_step {z : Nat → Int} {n : Nat} {after : Int} {k : Nat} (hk : k < n) (h : noP (z k) = true) : bhP z n after (n - k) = bhP z n after (n - (k + 1)) := by
  obtain ⟨m, hm⟩ : ∃ m, n - k = m + 1 := ⟨n - k - 1, by omega⟩
  have e : n - (m + 1) = k := by omega
  have e2 : n - (k + 1) = m := by omega
  rw [hm, e2]; simp only [bhP, e]; rw [if_pos h]
theorem bhP_hit {z : Nat → Int} {n : Nat} {after : Int} {k : Nat} (hk : k < n) (h : noP (z k) = false) : bhP z n after (n - k) = z k := by
  obtain ⟨m, hm⟩ : ∃ m, n - k = m + 1 := ⟨n - k - 1, by omega⟩
  have e : n - (m + 1) = k := by omega
  rw [hm]; simp only [bhP, e]; rw [if_neg (by rw [h]; simp)]
theorem bhP_run {z : Nat → Int} {n : Nat} {after : Int} {f t : Nat} (hft : f ≤ t) (htn : t ≤ n) (h : ∀ j, f ≤ j → j < t → noP (z j) = true) : bhP z n after (n - f) = bhP z n after (n - t) := by
  induction t with
  | zero => have : f = 0 := by omega
            subst this; rfl
  | succ t ih =>
    by_cases e : f = t + 1
    · subst e; rfl
    · rw [ih (by omega) (by omega) (fun j a b => h j a (by omega)), bhP_step (by omega) (h t (by omega) (by omega))]
theorem plain_run {z : Nat → Int} {n : Nat} {before after lv : Int} {f t : Nat} (htn : t ≤ n) (h : ∀ j, f ≤ j → j < t → noP (z j) = true) {j : Nat} (h1 : f ≤ j) (h2 : j < t) : plainAt z n before after lv j = among (ahP z before f) (bhP z n after (n - t)) lv := by
  unfold plainAt
  rw [if_pos (h j h1 h2), ahP_run h1 (fun i a b => h i a (by omega)), bhP_run (f := j) (t := t) (by omega) htn (fun i a b => h i (by omega) b)]
theorem plain_other {z : Nat → Int} {n : Nat} {before after lv : Int} {j : Nat} (h : noP (z j) = false) : plainAt z n before after lv j = z j := by
  unfold plainAt; rw [if_neg (by rw [h]; simp)]
theorem ahP_hit {z : Nat → Int} {before : Int} {k : Nat} (h : noP (z k) = false) : ahP z before (k + 1) = z k := by
  simp only [ahP]; rw [if_neg (by rw [h]; simp)]

def clsA (z : Nat → Int) : Nat → Bool
  | 0 => true
  | k + 1 => clsA z k && decide (1 ≤ z k ∧ z k ≤ 22)
theorem clsA_iff (z : Nat → Int) (n : Nat) : clsA z n = true ↔ ∀ j, j < n → 1 ≤ z j ∧ z j ≤ 22 := by
  induction n with
  | zero => simp [clsA]
  | succ n ih =>
    simp only [clsA, Bool.and_eq_true, ih, decide_eq_true_eq]
    constructor
    · intro h j hj
      by_cases e : j = n
      · subst e; exact h.2
      · exact h.1 j (by omega)
    · intro h; exact ⟨fun j hj => h j (by omega), h n (by omega)⟩
def clsOk (z : Nat → Int) (n : Nat) : Bool := decide (n ≤ 80) && clsA z n
theorem clsOk_yes {z : Nat → Int} {n : Nat} (h : ∀ j, j < n → 1 ≤ z j ∧ z j ≤ 22) : clsOk z n = decide (n ≤ 80) := by
  simp [clsOk, (clsA_iff z n).2 h]
theorem clsOk_no {z : Nat → Int} {n k : Nat} (hk : k < n) (h : ¬ (1 ≤ z k ∧ z k ≤ 22)) : clsOk z n = false := by
  unfold clsOk
  rw [Bool.and_eq_false_iff]; right
  rw [Bool.eq_false_iff]; intro a; exact h ((clsA_iff z n).1 a k hk)
theorem clsOk_long {z : Nat → Int} {n : Nat} (h : 80 < n) : clsOk z n = false := by simp [clsOk]; omega
theorem clsOk_out {z : Nat → Int} {n : Nat} (h : clsOk z n = true) : n ≤ 80 ∧ ∀ j, j < n → 1 ≤ z j ∧ z j ≤ 22 := by
  unfold clsOk at h; rw [Bool.and_eq_true, decide_eq_true_eq, clsA_iff] at h; exact h
def sideB (c : Int) : Bool := decide (c = 1 ∨ c = 2)
def lvB (lv : Int) : Bool := decide (0 ≤ lv ∧ lv ≤ 22)
def plainR (l : List Int) (before after lv : Int) : List Int :=
  if clsOk (fn l) l.length = true ∧ sideB before = true ∧ sideB after = true ∧ lvB lv = true then plainL l before after lv else []
/-- The side as the specification says it. -/
def asB (c : Int) : Int := if c = 4 ∨ c = 7 then 2 else c
theorem among_as (a b lv : Int) : (if asB a = asB b ∧ sideB (asB a) = true then asB a else ownOf lv) = among a b lv := by
  unfold among like asB sideB
  by_cases h1 : a = 1 <;> by_cases h2 : a = 2 <;> by_cases h4 : a = 4 <;> by_cases h7 : a = 7 <;> by_cases g1 : b = 1 <;> by_cases g2 : b = 2 <;> by_cases g4 : b = 4 <;> by_cases g7 : b = 7 <;> simp_all <;> omega
theorem as_side {c : Int} (h : sideB c = true) : asB c = c := by
  unfold sideB at h; rw [decide_eq_true_eq] at h
  rcases h with rfl | rfl <;> rfl
end Go.Proofs.YtgojdlbidjnmmaaGreat
