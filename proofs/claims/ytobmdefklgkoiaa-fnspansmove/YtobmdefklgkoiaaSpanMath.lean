import Derived.Test.YtobmdefklgkoiaaBidiD
import Derived.Test.YtobmdefklgkoiaaMem
namespace Go.Proofs.Ytobmdefklgkoiaa
open Go.RowKit
set_option linter.unusedSimpArgs false

def spOk (c f t s m : Int) : Bool := decide (0 ≤ f ∧ f < c ∧ f < t ∧ t ≤ c ∧ 1 ≤ s ∧ s ≤ 40 ∧ 0 ≤ m ∧ m ≤ 9)
theorem spOk_iff {c f t s m : Int} : spOk c f t s m = true ↔ (0 ≤ f ∧ f < c ∧ f < t ∧ t ≤ c ∧ 1 ≤ s ∧ s ≤ 40 ∧ 0 ≤ m ∧ m ≤ 9) := by simp [spOk]
/-- Where the span ahead ends. -/
def enS (z : Nat → Int) (k : Nat) : Int := if k = 0 then 0 else z ((k - 1) * 4 + 1)
def rowOk (z : Nat → Int) (c : Int) (i : Nat) : Bool := spOk c (z (i * 4)) (z (i * 4 + 1)) (z (i * 4 + 2)) (z (i * 4 + 3)) && decide (enS z i ≤ z (i * 4))
def allS (p : Nat → Bool) : Nat → Bool
  | 0 => true
  | k + 1 => allS p k && p k
theorem allS_iff (p : Nat → Bool) (n : Nat) : allS p n = true ↔ ∀ j, j < n → p j = true := by
  induction n with
  | zero => simp [allS]
  | succ n ih =>
    simp only [allS, Bool.and_eq_true, ih]
    constructor
    · intro h j hj
      by_cases e : j = n
      · subst e; exact h.2
      · exact h.1 j (by omega)
    · intro h; exact ⟨fun j hj => h j (by omega), h n (by omega)⟩
theorem allS_false {p : Nat → Bool} {n k : Nat} (hk : k < n) (h : p k = false) : allS p n = false := by
  rw [Bool.eq_false_iff]; intro a; rw [allS_iff] at a; have := a k hk; rw [h] at this; cases this
def spansOk (z : Nat → Int) (n : Nat) (c : Int) : Bool := decide (0 ≤ c ∧ c ≤ 80 ∧ n ≤ 12) && allS (rowOk z c) n
theorem spansOk_yes {z : Nat → Int} {n : Nat} {c : Int} (h1 : 0 ≤ c) (h2 : c ≤ 80) (h3 : n ≤ 12) (h : ∀ j, j < n → rowOk z c j = true) : spansOk z n c = true := by
  unfold spansOk; rw [(allS_iff _ _).2 h]; simp [h1, h2, h3]
theorem spansOk_row {z : Nat → Int} {n k : Nat} {c : Int} (hk : k < n) (h : rowOk z c k = false) : spansOk z n c = false := by
  unfold spansOk; rw [allS_false hk h]; simp
theorem spansOk_bad {z : Nat → Int} {n : Nat} {c : Int} (h : ¬ (0 ≤ c ∧ c ≤ 80 ∧ n ≤ 12)) : spansOk z n c = false := by
  unfold spansOk; simp [h]
theorem spansOk_out {z : Nat → Int} {n : Nat} {c : Int} (h : spansOk z n c = true) : (0 ≤ c ∧ c ≤ 80 ∧ n ≤ 12) ∧ ∀ j, j < n → rowOk z c j = true := by
  unfold spansOk at h
  rw [Bool.and_eq_true, decide_eq_true_eq, allS_iff] at h
  exact h
theorem rowOk_parts {z : Nat → Int} {c : Int} {i : Nat} (h : rowOk z c i = true) : (0 ≤ z (i * 4) ∧ z (i * 4) < c ∧ z (i * 4) < z (i * 4 + 1) ∧ z (i * 4 + 1) ≤ c ∧ 1 ≤ z (i * 4 + 2) ∧ z (i * 4 + 2) ≤ 40 ∧ 0 ≤ z (i * 4 + 3) ∧ z (i * 4 + 3) ≤ 9) ∧ enS z i ≤ z (i * 4) := by
  unfold rowOk at h
  rw [Bool.and_eq_true, decide_eq_true_eq, spOk_iff] at h
  exact h
theorem rowOk_mk {z : Nat → Int} {c : Int} {i : Nat} (h : spOk c (z (i * 4)) (z (i * 4 + 1)) (z (i * 4 + 2)) (z (i * 4 + 3)) = true) (h2 : enS z i ≤ z (i * 4)) : rowOk z c i = true := by
  unfold rowOk; rw [h]; simp [h2]
theorem rowOk_no1 {z : Nat → Int} {c : Int} {i : Nat} (h : spOk c (z (i * 4)) (z (i * 4 + 1)) (z (i * 4 + 2)) (z (i * 4 + 3)) = false) : rowOk z c i = false := by
  unfold rowOk; rw [h]; simp
theorem rowOk_no2 {z : Nat → Int} {c : Int} {i : Nat} (h2 : z (i * 4) < enS z i) : rowOk z c i = false := by
  unfold rowOk; rw [Bool.and_eq_false_iff]; right; simp; omega
theorem enS_zero (z : Nat → Int) : enS z 0 = 0 := by simp [enS]
theorem enS_succ (z : Nat → Int) (k : Nat) : enS z (k + 1) = z (k * 4 + 1) := by simp [enS]

/-- How a letter looks, from the k last spans of n. -/
def spAt (z : Nat → Int) (a : Int) (n : Nat) : Nat → Int × Int
  | 0 => (10, 0)
  | k + 1 => if z ((n - (k + 1)) * 4) ≤ a ∧ a < z ((n - (k + 1)) * 4 + 1) then (z ((n - (k + 1)) * 4 + 2), z ((n - (k + 1)) * 4 + 3)) else spAt z a n k
theorem spAt_hit {z : Nat → Int} {a : Int} {n k : Nat} (hk : k < n) (h : z (k * 4) ≤ a ∧ a < z (k * 4 + 1)) : spAt z a n (n - k) = (z (k * 4 + 2), z (k * 4 + 3)) := by
  obtain ⟨m, hm⟩ : ∃ m, n - k = m + 1 := ⟨n - k - 1, by omega⟩
  have e : n - (m + 1) = k := by omega
  rw [hm]; simp only [spAt, e]; rw [if_pos h]
theorem spAt_miss {z : Nat → Int} {a : Int} {n k : Nat} (hk : k < n) (h : ¬ (z (k * 4) ≤ a ∧ a < z (k * 4 + 1))) : spAt z a n (n - k) = spAt z a n (n - (k + 1)) := by
  obtain ⟨m, hm⟩ : ∃ m, n - k = m + 1 := ⟨n - k - 1, by omega⟩
  have e : n - (m + 1) = k := by omega
  have e2 : n - (k + 1) = m := by omega
  rw [hm, e2]; simp only [spAt, e]; rw [if_neg h]
def lookAt (z : Nat → Int) (n : Nat) (a : Int) : Int × Int := spAt z a n n
def spanAt (z : Nat → Int) (n : Nat) (a : Int) : Int × Int := if spansOk z n 80 = true then lookAt z n a else (0, 0)

/-- A slice of spans that can be read, their numbers one behind the other. -/
def ArgS (w : World) (v : Value) (n : Nat) (l : List Int) : Prop :=
  (∃ a cap, v = .slice a 0 cap ∧ n = 0) ∨ ∃ b cap, v = .slice (some ⟨b, 0, none⟩) n cap ∧ b < w.heap.size ∧ n ≤ cap ∧ cap ≤ maxLen ∧ ∀ j, j < n * 4 → w.cell? ⟨b, j, none⟩ = some (.int .i64 (fn l j))
theorem ArgS.below {w w' : World} {v : Value} {n : Nat} {l : List Int} (h : ArgS w v n l) (hb : Below w.heap.size w w') : ArgS w' v n l := by
  rcases h with h | ⟨b, cap, rfl, h1, h2, h3, h4⟩
  · exact .inl h
  · exact .inr ⟨b, cap, rfl, Nat.lt_of_lt_of_le h1 hb.size, h2, h3, fun j hj => (hb.cell (p := ⟨b, j, none⟩) h1).trans (h4 j hj)⟩
end Go.Proofs.Ytobmdefklgkoiaa
