import Derived.Test.YtanhmphmpobceaaClusMath
import Derived.Test.YtanhmphmpobceaaMem
namespace Go.Proofs.Ytanhmphmpobceaa
set_option linter.unusedSimpArgs false

def atOf (z : Nat → Int) : Nat → Nat
  | 0 => 0
  | k + 1 => if joins z (k + 1) = true then atOf z k else k + 1
theorem atOf_le (z : Nat → Int) (k : Nat) : atOf z k ≤ k := by
  induction k with
  | zero => simp [atOf]
  | succ k ih => simp only [atOf]; split <;> omega
theorem atOf_begins (z : Nat → Int) (k : Nat) : begins z (atOf z k) = true := by
  induction k with
  | zero => simp [atOf, begins]
  | succ k ih =>
    simp only [atOf]; split
    · exact ih
    · rename_i h; simp [begins, h]
theorem atOf_max (z : Nat → Int) (k x : Nat) (hx : x ≤ k) (hb : begins z x = true) : x ≤ atOf z k := by
  induction k with
  | zero => simp [atOf]; omega
  | succ k ih =>
    simp only [atOf]; split
    · rename_i h
      by_cases e : x = k + 1
      · subst e; simp [begins, h] at hb
      · exact ih (by omega)
    · exact hx
theorem atOf_self (z : Nat → Int) (k : Nat) : atOf z k = k ↔ begins z k = true := by
  constructor
  · intro h; have := atOf_begins z k; rwa [h] at this
  · intro h; have := atOf_max z k k (Nat.le_refl _) h; have := atOf_le z k; omega

theorem mem_starts (z : Nat → Int) (n : Nat) (x : Int) : x ∈ starts z n ↔ ∃ k : Nat, k < n ∧ x = (k : Int) ∧ begins z k = true := by
  induction n with
  | zero => simp [starts]
  | succ n ih =>
    simp only [starts]
    split
    · rename_i h
      rw [List.mem_append, ih]
      constructor
      · rintro (⟨k, h1, h2, h3⟩ | h1)
        · exact ⟨k, by omega, h2, h3⟩
        · simp at h1; exact ⟨n, by omega, h1, h⟩
      · rintro ⟨k, h1, h2, h3⟩
        by_cases e : k = n
        · right; simp [h2, e]
        · left; exact ⟨k, by omega, h2, h3⟩
    · rename_i h
      rw [ih]
      constructor
      · rintro ⟨k, h1, h2, h3⟩; exact ⟨k, by omega, h2, h3⟩
      · rintro ⟨k, h1, h2, h3⟩
        by_cases e : k = n
        · subst e; exact absurd h3 h
        · exact ⟨k, by omega, h2, h3⟩
theorem starts_up (z : Nat → Int) (n : Nat) : (starts z n).Pairwise (· < ·) := by
  induction n with
  | zero => simp [starts]
  | succ n ih =>
    simp only [starts]
    split
    · rw [List.pairwise_append]
      refine ⟨ih, by simp, fun a ha b hb => ?_⟩
      have := starts_lt z n a ha
      simp at hb; omega
    · exact ih
theorem starts_mono (z : Nat → Int) (n i j : Nat) (h : i < j) (hj : j < (starts z n).length) : fn (starts z n) i < fn (starts z n) j := by
  have := List.pairwise_iff_getElem.1 (starts_up z n) i j (by omega) hj h
  rwa [fn_get (by omega), fn_get hj]
theorem starts_idx {z : Nat → Int} {n k : Nat} (hk : k < n) (hb : begins z k = true) : ∃ i, i < (starts z n).length ∧ fn (starts z n) i = (k : Int) := by
  obtain ⟨i, hi, e⟩ := List.mem_iff_getElem.1 ((mem_starts z n k).2 ⟨k, hk, rfl, hb⟩)
  exact ⟨i, hi, by rw [fn_get hi]; exact e⟩
theorem starts_of {z : Nat → Int} {n i : Nat} (hi : i < (starts z n).length) : ∃ k : Nat, k < n ∧ fn (starts z n) i = (k : Int) ∧ begins z k = true := by
  have := (mem_starts z n (fn (starts z n) i)).1 (by rw [fn_get hi]; exact List.getElem_mem hi)
  exact this

/-- What a search by halves finds in the starts. -/
structure Found (s : List Int) (t : Int) (k : Nat) : Prop where
  le : k ≤ s.length
  low : ∀ j, j < k → fn s j < t
  high : k < s.length → t ≤ fn s k

theorem found_yes {z : Nat → Int} {n a k : Nat} (h : Found (starts z n) (a : Int) k) (ha : a < n) : (k < (starts z n).length ∧ fn (starts z n) k = (a : Int)) ↔ begins z a = true := by
  constructor
  · rintro ⟨h1, h2⟩
    obtain ⟨q, h3, h4, h5⟩ := starts_of h1
    have : q = a := by omega
    subst this; exact h5
  · intro hb
    obtain ⟨i, hi, e⟩ := starts_idx ha hb
    have hki : k ≤ i := by
      rcases Nat.lt_or_ge i k with hlt | hge
      · have := h.low i hlt; omega
      · exact hge
    have hk : k < (starts z n).length := by omega
    refine ⟨hk, ?_⟩
    have := h.high hk
    rcases Nat.lt_or_ge k i with hlt | hge
    · have := starts_mono z n k i hlt hi; omega
    · have : k = i := by omega
      subst this; exact e
theorem found_ahead {z : Nat → Int} {n a k : Nat} (h : Found (starts z n) (a : Int) k) (ha : a < n) (hb : begins z a = false) : 0 < k ∧ fn (starts z n) (k - 1) = (atOf z a : Int) := by
  have hle := atOf_le z a
  have hbe := atOf_begins z a
  have hne : atOf z a ≠ a := fun e => by rw [e, hb] at hbe; cases hbe
  obtain ⟨i, hi, e⟩ := starts_idx (n := n) (by omega) hbe
  have hik : i < k := by
    rcases Nat.lt_or_ge i k with hlt | hge
    · exact hlt
    · have hk : k < (starts z n).length := by omega
      have h1 := h.high hk
      rcases Nat.lt_or_ge k i with h2 | h2
      · have := starts_mono z n k i h2 hi; omega
      · have : k = i := by omega
        subst this; omega
  refine ⟨by omega, ?_⟩
  have hk1 : k - 1 < (starts z n).length := by have := h.le; omega
  obtain ⟨q, h3, h4, h5⟩ := starts_of hk1
  have h6 := h.low (k - 1) (by omega)
  have h7 := atOf_max z a q (by omega) h5
  rcases Nat.lt_or_ge i (k - 1) with h8 | h8
  · have := starts_mono z n i (k - 1) h8 hk1; omega
  · have : i = k - 1 := by omega
    subst this; exact e
theorem found_none {s : List Int} {t : Int} {k : Nat} (hn : t ∉ s) : ¬ (k < s.length ∧ fn s k = t) := by
  rintro ⟨h1, h2⟩
  exact hn (by rw [← h2, fn_get h1]; exact List.getElem_mem h1)

/-- Where the cluster of a letter ends. -/
structure Ends (z : Nat → Int) (n a e : Nat) : Prop where
  lt : a < e
  le : e ≤ n
  ins : ∀ j, a < j → j < e → joins z j = true
  out : e < n → joins z e = false
theorem ends_starts {z : Nat → Int} {n a k : Nat} (hk : k < (starts z n).length) (hs : fn (starts z n) k = (a : Int)) (e : Nat) (he : if k + 1 < (starts z n).length then fn (starts z n) (k + 1) = (e : Int) else e = n) : Ends z n a e := by
  have hin : ∀ j, a < j → j < e → j < n → joins z j = true := by
    intro j h1 h2 h3
    rcases hb : begins z j with _ | _
    · simp [begins] at hb; exact hb.2
    · exfalso
      obtain ⟨i, hi, e2⟩ := starts_idx h3 hb
      have : k < i := by
        rcases Nat.lt_trichotomy i k with h | h | h
        · have := starts_mono z n i k h hk; omega
        · subst h; omega
        · exact h
      split at he
      · rename_i h4
        rcases Nat.lt_or_ge (k + 1) i with h5 | h5
        · have := starts_mono z n (k + 1) i h5 hi; omega
        · have : i = k + 1 := by omega
          subst this; omega
      · omega
  obtain ⟨q, h3, h4, _⟩ := starts_of hk
  have hqa : q = a := by omega
  subst hqa
  split at he
  · rename_i h4
    obtain ⟨q2, h5, h6, h7⟩ := starts_of h4
    have : q2 = e := by omega
    subst this
    have hm := starts_mono z n k (k + 1) (by omega) h4
    refine ⟨by omega, by omega, fun j a1 a2 => hin j a1 a2 (by omega), fun _ => ?_⟩
    simp [begins] at h7
    rcases h7 with h7 | h7
    · omega
    · exact h7
  · subst he
    exact ⟨h3, Nat.le_refl _, fun j a1 a2 => hin j a1 a2 a2, fun h => absurd h (Nat.lt_irrefl _)⟩
theorem ends_exists (z : Nat → Int) (n a : Nat) (ha : a < n) : ∃ e, Ends z n a e := by
  have : ∀ d k, n - k = d → a < k → k ≤ n → (∀ j, a < j → j < k → joins z j = true) → ∃ e, Ends z n a e := by
    intro d
    induction d with
    | zero => intro k h1 h2 h3 h4; exact ⟨k, h2, h3, h4, fun h => by omega⟩
    | succ d ih =>
      intro k h1 h2 h3 h4
      cases hj : joins z k
      · exact ⟨k, h2, h3, h4, fun _ => hj⟩
      · exact ih (k + 1) (by omega) (by omega) (by omega) (fun j a1 a2 => by
          by_cases e : j = k
          · subst e; exact hj
          · exact h4 j a1 (by omega))
  exact this _ (a + 1) rfl (by omega) (by omega) (fun j a1 a2 => by omega)
theorem ends_same {z : Nat → Int} {n a e e' : Nat} (h : Ends z n a e) (h' : Ends z n a e') : e = e' := by
  rcases Nat.lt_trichotomy e e' with c | c | c
  · have := h.out (by have := h'.le; omega); have := h'.ins e h.lt c; simp_all
  · exact c
  · have := h'.out (by have := h.le; omega); have := h.ins e' h'.lt c; simp_all
end Go.Proofs.Ytanhmphmpobceaa
