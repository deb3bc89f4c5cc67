import Derived.Test.YtobmdefklgkoiaaSpRle
import Derived.Test.YtobmdefklgkoiaaSpanMath
namespace Go.Proofs.Ytobmdefklgkoiaa
set_option linter.unusedSimpArgs false
set_option linter.unusedVariables false

/-- Runs with those letters of others behind that are from one place up to another one; b is where the others begin. -/
def partR (b : Nat) (l : Runs) : Runs → Nat → Nat → Runs
  | [], f, t => l
  | (a, n) :: r, f, t => partR (b + n) (withR l a (min (b + n) t - max b f)) r f t
theorem norm_part {l : Runs} (h : normR l) (o : Runs) : ∀ b f t, normR (partR b l o f t) := by
  induction o generalizing l with
  | nil => intro b f t; exact h
  | cons x r ih => obtain ⟨a, n⟩ := x; intro b f t; exact ih (norm_with h a _) _ _ _
theorem expand_part (o : Runs) : ∀ (b : Nat) (l : Runs) (f t : Nat), expandR (partR b l o f t) = expandR l ++ ((expandR o).take (t - b)).drop (f - b) := by
  induction o with
  | nil => intro b l f t; simp [partR, expandR]
  | cons x r ih =>
    obtain ⟨a, n⟩ := x
    intro b l f t
    simp only [partR, expandR]
    rw [ih, expand_with, List.append_assoc]
    congr 1
    rw [List.take_append, List.take_replicate, List.length_replicate, List.drop_append, List.drop_replicate, List.length_replicate]
    have e1 : min (b + n) t - max b f = min (t - b) n - (f - b) := by omega
    rw [e1]
    congr 1
    by_cases hn : n ≤ t - b
    · rw [show t - b - n = t - (b + n) by omega, show f - b - min (t - b) n = f - (b + n) by omega]
    · rw [show t - b - n = 0 by omega, show t - (b + n) = 0 by omega]
      simp
/-- How letters look by spans: the k first of them. -/
def lkR (z : Nat → Int) : Nat → Runs
  | 0 => []
  | k + 1 => withR (withR (lkR z k) (10, 0) (z (k * 4) - enS z k).toNat) (z (k * 4 + 2), z (k * 4 + 3)) (z (k * 4 + 1) - z (k * 4)).toNat
def looksR (z : Nat → Int) (n : Nat) (c : Int) : Runs := withR (lkR z n) (10, 0) (c - enS z n).toNat
def looksS (z : Nat → Int) (n c : Nat) : List (Int × Int) := (List.range c).map (fun (j : Nat) => lookAt z n (j : Int))
theorem looksS_len (z : Nat → Int) (n c : Nat) : (looksS z n c).length = c := by simp [looksS]
theorem norm_lk (z : Nat → Int) (k : Nat) : normR (lkR z k) := by
  induction k with
  | zero => trivial
  | succ k ih => exact norm_with (norm_with ih _ _) _ _
theorem norm_looks (z : Nat → Int) (n : Nat) (c : Int) : normR (looksR z n c) := norm_with (norm_lk z n) _ _
theorem sp_skip {z : Nat → Int} {a : Int} {n : Nat} : ∀ k, k ≤ n → (∀ i, i < k → ¬ (z (i * 4) ≤ a ∧ a < z (i * 4 + 1))) → spAt z a n n = spAt z a n (n - k) := by
  intro k
  induction k with
  | zero => intro _ _; rfl
  | succ k ih =>
    intro hk h
    rw [ih (by omega) (fun i hi => h i (by omega)), spAt_miss (by omega) (h k (by omega))]
theorem sp_none {z : Nat → Int} {a : Int} {n : Nat} (h : ∀ i, i < n → ¬ (z (i * 4) ≤ a ∧ a < z (i * 4 + 1))) : spAt z a n n = (10, 0) := by
  rw [sp_skip n (Nat.le_refl _) h, Nat.sub_self]; rfl
section
variable {z : Nat → Int} {n : Nat} {c : Int}
theorem end_nn (h : spansOk z n c = true) : ∀ k, k ≤ n → 0 ≤ enS z k ∧ enS z k ≤ c := by
  obtain ⟨h1, h2⟩ := spansOk_out h
  intro k
  cases k with
  | zero => intro _; rw [enS_zero]; omega
  | succ k =>
    intro hk
    have := (rowOk_parts (h2 k (by omega))).1
    rw [enS_succ]
    omega
theorem end_mono (h : spansOk z n c = true) : ∀ k, k ≤ n → ∀ i, i < k → z (i * 4 + 1) ≤ enS z k := by
  obtain ⟨h1, h2⟩ := spansOk_out h
  intro k
  induction k with
  | zero => intro _ i hi; omega
  | succ k ih =>
    intro hk i hi
    have hr := rowOk_parts (h2 k (by omega))
    rw [enS_succ]
    by_cases e : i = k
    · subst e; exact Int.le_refl _
    · have := ih (by omega) i (by omega)
      have := hr.2
      have := hr.1
      omega
theorem from_mono (h : spansOk z n c = true) (k : Nat) : ∀ d, k + d < n → z (k * 4) ≤ z ((k + d) * 4) := by
  obtain ⟨h1, h2⟩ := spansOk_out h
  intro d
  induction d with
  | zero => intro _; exact Int.le_refl _
  | succ d ih =>
    intro hd
    have h3 := ih (by omega)
    have h4 := end_mono h (k + d + 1) (by omega) (k + d) (by omega)
    have h5 := (rowOk_parts (h2 (k + d + 1) (by omega))).2
    have h6 := (rowOk_parts (h2 (k + d) (by omega))).1
    rw [show k + (d + 1) = k + d + 1 by omega]
    omega
theorem look_gap (h : spansOk z n c = true) {k : Nat} (hk : k ≤ n) {a : Int} (h1 : enS z k ≤ a) (h2 : k < n → a < z (k * 4)) : lookAt z n a = (10, 0) := by
  refine sp_none (fun i hi => ?_)
  by_cases q : i < k
  · have := end_mono h k hk i q
    omega
  · have := from_mono h k (i - k) (by omega)
    rw [show k + (i - k) = i by omega] at this
    have := h2 (by omega)
    omega
theorem look_in (h : spansOk z n c = true) {k : Nat} (hk : k < n) {a : Int} (h1 : z (k * 4) ≤ a) (h2 : a < z (k * 4 + 1)) : lookAt z n a = (z (k * 4 + 2), z (k * 4 + 3)) := by
  have h5 := (rowOk_parts ((spansOk_out h).2 k hk)).2
  unfold lookAt
  rw [sp_skip k (by omega) (fun i hi => by have := end_mono h k (by omega) i hi; omega), spAt_hit hk ⟨h1, h2⟩]
theorem range_more (f : Nat → Int × Int) {x y : Nat} (hxy : x ≤ y) {a : Int × Int} (h : ∀ j, x ≤ j → j < y → f j = a) : (List.range y).map f = (List.range x).map f ++ List.replicate (y - x) a := by
  obtain ⟨d, rfl⟩ : ∃ d, y = x + d := ⟨y - x, by omega⟩
  rw [show x + d - x = d by omega]
  induction d with
  | zero => simp
  | succ d ih =>
    rw [show x + (d + 1) = (x + d) + 1 by omega, List.range_succ, List.map_append, ih (by omega) (fun j h1 h2 => h j h1 (by omega)), List.append_assoc]
    congr 1
    simp only [List.map_cons, List.map_nil]
    rw [h (x + d) (by omega) (by omega), List.replicate_succ']
theorem expand_lk (h : spansOk z n c = true) : ∀ k, k ≤ n → expandR (lkR z k) = looksS z n (enS z k).toNat := by
  obtain ⟨h1, h2⟩ := spansOk_out h
  intro k
  induction k with
  | zero => intro _; rw [enS_zero]; rfl
  | succ k ih =>
    intro hk
    have hr := rowOk_parts (h2 k (by omega))
    have he := end_nn h k (by omega)
    simp only [lkR]
    rw [expand_with, expand_with, ih (by omega), enS_succ]
    unfold looksS
    rw [range_more (fun (j : Nat) => lookAt z n (j : Int)) (x := (z (k * 4)).toNat) (y := (z (k * 4 + 1)).toNat) (by omega) (a := (z (k * 4 + 2), z (k * 4 + 3))) (fun j h3 h4 => look_in h (by omega) (by omega) (by omega)),
      range_more (fun (j : Nat) => lookAt z n (j : Int)) (x := (enS z k).toNat) (y := (z (k * 4)).toNat) (by omega) (a := (10, 0)) (fun j h3 h4 => look_gap h (k := k) (by omega) (by omega) (fun _ => by omega))]
    rw [show (z (k * 4)).toNat - (enS z k).toNat = (z (k * 4) - enS z k).toNat by omega, show (z (k * 4 + 1)).toNat - (z (k * 4)).toNat = (z (k * 4 + 1) - z (k * 4)).toNat by omega]
/-- The runs of spans say how each letter looks. -/
theorem expand_looks (h : spansOk z n c = true) : expandR (looksR z n c) = looksS z n c.toNat := by
  have he := end_nn h n (Nat.le_refl _)
  unfold looksR
  rw [expand_with, expand_lk h n (Nat.le_refl _)]
  unfold looksS
  rw [range_more (fun (j : Nat) => lookAt z n (j : Int)) (x := (enS z n).toNat) (y := c.toNat) (by omega) (a := (10, 0)) (fun j h3 h4 => look_gap h (k := n) (Nat.le_refl _) (by omega) (fun q => by omega))]
  rw [show c.toNat - (enS z n).toNat = (c - enS z n).toNat by omega]
end
theorem rle_looks {z : Nat → Int} {n : Nat} {c : Int} (h : spansOk z n c = true) : rleR (looksS z n c.toNat) = looksR z n c := by
  rw [← expand_looks h]; exact rle_of (norm_looks z n c)
/-- The look of the letter ahead of a place. -/
def ahR (b : Nat) (as0 : Int × Int) : Runs → Nat → Int × Int
  | [], p => as0
  | (a, n) :: r, p => ahR (b + n) (if b < p then a else as0) r p
theorem ah_keep (l : Runs) : ∀ (b : Nat) (x : Int × Int) (p : Nat), p ≤ b → ahR b x l p = x := by
  induction l with
  | nil => intro b x p _; rfl
  | cons y r ih =>
    obtain ⟨a, n⟩ := y
    intro b x p hp
    simp only [ahR]
    rw [if_neg (by omega)]
    exact ih _ _ _ (by omega)
theorem ah_is (l : Runs) : ∀ (b : Nat) (x : Int × Int) (p : Nat), normR l → b < p → p ≤ b + cntR l → (expandR l)[p - b - 1]? = some (ahR b x l p) := by
  induction l with
  | nil => intro b x p _ h1 h2; simp only [cntR] at h2; omega
  | cons y r ih =>
    obtain ⟨a, n⟩ := y
    intro b x p hn h1 h2
    obtain ⟨hn1, _, hn3⟩ := hn
    simp only [ahR, expandR, cntR] at *
    rw [if_pos h1]
    by_cases q : p ≤ b + n
    · rw [ah_keep r _ _ _ q, List.getElem?_append_left (by simp; omega), List.getElem?_replicate, if_pos (by omega)]
    · rw [List.getElem?_append_right (by simp; omega), List.length_replicate, show p - b - 1 - n = p - (b + n) - 1 by omega]
      exact ih (b + n) a p hn3 (by omega) (by omega)
end Go.Proofs.Ytobmdefklgkoiaa
