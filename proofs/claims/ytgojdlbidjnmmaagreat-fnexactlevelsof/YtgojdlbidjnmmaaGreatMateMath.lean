import Derived.Test.YtgojdlbidjnmmaaGreatClusMath
import Derived.Test.YtgojdlbidjnmmaaGreatMem
namespace Go.Proofs.YtgojdlbidjnmmaaGreat
set_option linter.unusedSimpArgs false

def cl (l : List Int) (j : Nat) : Int := bidi (fn l j)
def opensB (c : Int) : Bool := decide (19 ≤ c ∧ c ≤ 21)
/-- How much deeper a class leads. -/
def del (c : Int) : Int := if opensB c = true then 1 else if c = 22 then -1 else 0
/-- How deep it is behind so many, from a place on. -/
def dp (c : Nat → Int) (i : Nat) : Nat → Int
  | 0 => 0
  | m + 1 => dp c i m + del (c (i + m))
theorem dp_succ (c : Nat → Int) (i m : Nat) : dp c i (m + 1) = dp c i m + del (c (i + m)) := rfl
/-- The mate of what opens at a place. -/
structure MateIs (c : Nat → Int) (i j : Nat) : Prop where
  lt : i < j
  zero : dp c i (j + 1 - i) = 0
  pos : ∀ m, 1 ≤ m → m ≤ j - i → 1 ≤ dp c i m
theorem mate_unique {c : Nat → Int} {i j k : Nat} (h : MateIs c i j) (h2 : MateIs c i k) : j = k := by
  rcases Nat.lt_trichotomy j k with a | a | a
  · have := h2.pos (j + 1 - i) (by have := h.lt; omega) (by omega); have := h.zero; omega
  · exact a
  · have := h.pos (k + 1 - i) (by have := h2.lt; omega) (by omega); have := h2.zero; omega
/-- None closes it. -/
def NoMate (c : Nat → Int) (n i : Nat) : Prop := ∀ m, 1 ≤ m → m ≤ n - i → 1 ≤ dp c i m
/-- The function that tells mates: the place of the mate, or n. -/
def MateFn (c : Nat → Int) (n : Nat) (mt : Nat → Nat) : Prop :=
  ∀ i, i < n → opensB (c i) = true → (MateIs c i (mt i) ∧ mt i < n) ∨ (mt i = n ∧ NoMate c n i)

/-- By the stack: which are open ahead of a place. -/
structure Stack (c : Nat → Int) (k : Nat) (S : List Int) : Prop where
  lt : ∀ t, t < S.length → 0 ≤ fn S t ∧ fn S t < (k : Int) ∧ opensB (c (fn S t).toNat) = true
  deep : ∀ t, t < S.length → dp c (fn S t).toNat (k - (fn S t).toNat) = (S.length : Int) - t
  pos : ∀ t, t < S.length → ∀ m, 1 ≤ m → m ≤ k - (fn S t).toNat → 1 ≤ dp c (fn S t).toNat m

/-- What the list of mates says of a place below k. -/
def MatesTo (c : Nat → Int) (k : Nat) (S M : List Int) : Prop :=
  ∀ i, i < k → opensB (c i) = true → ((∃ j, j < k ∧ MateIs c i j ∧ fn M i = (j : Int)) ∨ (fn M i = -1 ∧ ∃ t, t < S.length ∧ fn S t = (i : Int)))
/-- Of what closes: where what it closes opens; -1 if it closes nothing. -/
def ClosTo (c : Nat → Int) (k : Nat) (M : List Int) : Prop :=
  ∀ j, j < k → opensB (c j) = false → ((∃ i, i < j ∧ opensB (c i) = true ∧ MateIs c i j ∧ fn M j = (i : Int)) ∨ (fn M j = -1 ∧ ∀ i, i < j → opensB (c i) = true → ¬ MateIs c i j))

theorem stack_zero (c : Nat → Int) : Stack c 0 [] := ⟨by simp, by simp, by simp⟩
theorem fn_snoc_last (S : List Int) (x : Int) : fn (S ++ [x]) S.length = x := by simp [fn]
theorem stack_push {c : Nat → Int} {k : Nat} {S : List Int} (h : Stack c k S) (ho : opensB (c k) = true) : Stack c (k + 1) (S ++ [(k : Int)]) := by
  have hd : del (c k) = 1 := by simp [del, ho]
  have old : ∀ t, t < S.length → dp c (fn S t).toNat (k + 1 - (fn S t).toNat) = dp c (fn S t).toNat (k - (fn S t).toNat) + 1 := by
    intro t ht
    have h1 := (h.lt t ht).1; have h2 := (h.lt t ht).2.1
    rw [show k + 1 - (fn S t).toNat = k - (fn S t).toNat + 1 by omega, dp_succ, show (fn S t).toNat + (k - (fn S t).toNat) = k by omega, hd]
  refine ⟨fun t ht => ?_, fun t ht => ?_, fun t ht m h1 h2 => ?_⟩ <;> simp only [List.length_append, List.length_singleton] at ht ⊢
  · by_cases e : t = S.length
    · subst e; rw [fn_snoc_last]; simp [ho]; omega
    · rw [fn_append_left (by omega)]; have := h.lt t (by omega); exact ⟨this.1, by omega, this.2.2⟩
  · by_cases e : t = S.length
    · subst e; rw [fn_snoc_last]
      rw [show ((k : Int)).toNat = k by omega, show k + 1 - k = 1 by omega]
      simp [dp, hd]; omega
    · rw [fn_append_left (by omega), old t (by omega), h.deep t (by omega)]; omega
  · by_cases e : t = S.length
    · subst e
      rw [fn_snoc_last] at h2 ⊢
      rw [show ((k : Int)).toNat = k by omega] at h2 ⊢
      have : m = 1 := by omega
      subst this; simp [dp, hd]
    · rw [fn_append_left (by omega)] at h2 ⊢
      by_cases e2 : m ≤ k - (fn S t).toNat
      · exact h.pos t (by omega) m h1 e2
      · have h3 := (h.lt t (by omega)).1; have h4 := (h.lt t (by omega)).2.1
        rw [show m = k + 1 - (fn S t).toNat by omega, old t (by omega), h.deep t (by omega)]; omega
theorem stack_stay {c : Nat → Int} {k : Nat} {S : List Int} (h : Stack c k S) (hd : del (c k) = 0 ∨ S = []) : Stack c (k + 1) S := by
  rcases hd with hd | rfl
  · have old : ∀ t, t < S.length → dp c (fn S t).toNat (k + 1 - (fn S t).toNat) = dp c (fn S t).toNat (k - (fn S t).toNat) := by
      intro t ht
      have h1 := (h.lt t ht).1; have h2 := (h.lt t ht).2.1
      rw [show k + 1 - (fn S t).toNat = k - (fn S t).toNat + 1 by omega, dp_succ, show (fn S t).toNat + (k - (fn S t).toNat) = k by omega, hd]; omega
    refine ⟨fun t ht => ?_, fun t ht => ?_, fun t ht m h1 h2 => ?_⟩
    · have := h.lt t ht; exact ⟨this.1, by omega, this.2.2⟩
    · rw [old t ht, h.deep t ht]
    · by_cases e2 : m ≤ k - (fn S t).toNat
      · exact h.pos t ht m h1 e2
      · have h3 := (h.lt t ht).1; have h4 := (h.lt t ht).2.1
        rw [show m = k + 1 - (fn S t).toNat by omega, old t ht, h.deep t ht]; omega
  · exact ⟨by simp, by simp, by simp⟩
/-- A closing one: the last one goes, and its mate is here. -/
theorem stack_pop {c : Nat → Int} {k q : Nat} {S : List Int} (h : Stack c k S) (hq : S.length = q + 1) (hc : c k = 22) :
    Stack c (k + 1) (S.take q) ∧ MateIs c (fn S q).toNat k := by
  have hd : del (c k) = -1 := by rw [hc]; decide
  have old : ∀ t, t < S.length → dp c (fn S t).toNat (k + 1 - (fn S t).toNat) = dp c (fn S t).toNat (k - (fn S t).toNat) - 1 := by
    intro t ht
    have h1 := (h.lt t ht).1; have h2 := (h.lt t ht).2.1
    rw [show k + 1 - (fn S t).toNat = k - (fn S t).toNat + 1 by omega, dp_succ, show (fn S t).toNat + (k - (fn S t).toNat) = k by omega, hd]; omega
  have hl : (S.take q).length = q := by rw [List.length_take]; omega
  refine ⟨⟨fun t ht => ?_, fun t ht => ?_, fun t ht m h1 h2 => ?_⟩, ?_, ?_, ?_⟩
  · rw [hl] at ht; rw [fn_take ht]; have := h.lt t (by omega); exact ⟨this.1, by omega, this.2.2⟩
  · rw [hl] at ht ⊢; rw [fn_take ht, old t (by omega), h.deep t (by omega)]; omega
  · rw [hl] at ht; rw [fn_take ht] at h2 ⊢
    by_cases e2 : m ≤ k - (fn S t).toNat
    · exact h.pos t (by omega) m h1 e2
    · have h3 := (h.lt t (by omega)).1; have h4 := (h.lt t (by omega)).2.1
      rw [show m = k + 1 - (fn S t).toNat by omega, old t (by omega), h.deep t (by omega)]; omega
  · have := h.lt q (by omega); omega
  · rw [old q (by omega), h.deep q (by omega)]; omega
  · intro m h1 h2; exact h.pos q (by omega) m h1 h2

/-- At the end: what the list of mates says. -/
theorem mates_end {c : Nat → Int} {n : Nat} {S M : List Int} (hs : Stack c n S) (hm : MatesTo c n S M) (i : Nat) (hi : i < n) (ho : opensB (c i) = true) :
    (∃ j, j < n ∧ MateIs c i j ∧ fn M i = (j : Int)) ∨ (fn M i = -1 ∧ NoMate c n i) := by
  rcases hm i hi ho with h | ⟨h, t, ht, e⟩
  · exact .inl h
  · refine .inr ⟨h, fun m h1 h2 => ?_⟩
    have := hs.pos t ht m h1 (by rw [e]; simpa using h2)
    rwa [e, show ((i : Int)).toNat = i by omega] at this
end Go.Proofs.YtgojdlbidjnmmaaGreat
