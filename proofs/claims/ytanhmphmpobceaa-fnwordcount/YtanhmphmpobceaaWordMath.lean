import Derived.Test.YtanhmphmpobceaaClusAtM
namespace Go.Proofs.Ytanhmphmpobceaa
set_option linter.unusedSimpArgs false

/-- Whether a class is one of a word. -/
def wcls (c : Int) : Bool := decide (c = 1 ∨ c = 2 ∨ c = 3 ∨ c = 4 ∨ c = 7)
/-- Whether a letter is one of a word. -/
def wordC (r : Int) : Bool := wcls (bidi r)
/-- Whether a word, or what stands between words, begins. -/
def wbeg (z : Nat → Int) : Nat → Bool
  | 0 => true
  | k + 1 => begins z (k + 1) && (wordC (z (k + 1)) != wordC (z (atOf z k)))
def wstarts (z : Nat → Int) : Nat → List Int
  | 0 => []
  | k + 1 => if wbeg z k = true then wstarts z k ++ [(k : Int)] else wstarts z k
def words (l : List Int) : List Int := if okF (fn l) l.length = true then wstarts (fn l) l.length else []
theorem wstarts_yes {z : Nat → Int} {k : Nat} (h : wbeg z k = true) : wstarts z (k + 1) = wstarts z k ++ [(k : Int)] := by simp [wstarts, h]
theorem wstarts_no {z : Nat → Int} {k : Nat} (h : wbeg z k = false) : wstarts z (k + 1) = wstarts z k := by simp [wstarts, h]
theorem wstarts_len (z : Nat → Int) (n : Nat) : (wstarts z n).length ≤ n := by
  induction n with
  | zero => simp [wstarts]
  | succ n ih =>
    simp only [wstarts]
    split
    · simp; omega
    · omega
theorem words_len (l : List Int) : (words l).length ≤ 80 := by
  unfold words
  split
  · rename_i h; have := wstarts_len (fn l) l.length; have := okF_len h; omega
  · simp
theorem words_ok {l : List Int} (h : okF (fn l) l.length = true) : words l = wstarts (fn l) l.length := by simp [words, h]
theorem words_bad {l : List Int} (h : okF (fn l) l.length = false) : words l = [] := by simp [words, h]
theorem mem_wstarts (z : Nat → Int) (n : Nat) (x : Int) : x ∈ wstarts z n ↔ ∃ k : Nat, k < n ∧ x = (k : Int) ∧ wbeg z k = true := by
  induction n with
  | zero => simp [wstarts]
  | succ n ih =>
    cases hb : wbeg z n
    · rw [wstarts_no hb, ih]
      constructor
      · rintro ⟨k, h1, h2, h3⟩; exact ⟨k, by omega, h2, h3⟩
      · rintro ⟨k, h1, h2, h3⟩
        refine ⟨k, ?_, h2, h3⟩
        rcases Nat.lt_or_ge k n with h | h
        · exact h
        · have : k = n := by omega
          subst this; rw [hb] at h3; cases h3
    · rw [wstarts_yes hb, List.mem_append, ih, List.mem_singleton]
      constructor
      · rintro (⟨k, h1, h2, h3⟩ | rfl)
        · exact ⟨k, by omega, h2, h3⟩
        · exact ⟨n, by omega, rfl, hb⟩
      · rintro ⟨k, h1, h2, h3⟩
        rcases Nat.lt_or_ge k n with h | h
        · exact .inl ⟨k, h, h2, h3⟩
        · have : k = n := by omega
          subst this; exact .inr h2
theorem wstarts_up (z : Nat → Int) (n : Nat) : (wstarts z n).Pairwise (· < ·) := by
  induction n with
  | zero => simp [wstarts]
  | succ n ih =>
    simp only [wstarts]
    split
    · rw [List.pairwise_append]
      refine ⟨ih, by simp, fun a ha b hb => ?_⟩
      obtain ⟨k, h1, h2, _⟩ := (mem_wstarts z n a).1 ha
      simp at hb; omega
    · exact ih
theorem wstarts_mono (z : Nat → Int) (n i j : Nat) (h : i < j) (hj : j < (wstarts z n).length) : fn (wstarts z n) i < fn (wstarts z n) j := by
  have := List.pairwise_iff_getElem.1 (wstarts_up z n) i j (by omega) hj h
  rwa [fn_get (by omega), fn_get hj]
theorem words_up (l : List Int) : ∀ i j, i < j → j < (words l).length → fn (words l) i < fn (words l) j := by
  intro i j h hj
  cases hok : okF (fn l) l.length
  · rw [words_bad hok] at hj; simp at hj
  · rw [words_ok hok] at hj ⊢; exact wstarts_mono _ _ i j h hj
theorem wstarts_idx {z : Nat → Int} {n k : Nat} (hk : k < n) (hb : wbeg z k = true) : ∃ i, i < (wstarts z n).length ∧ fn (wstarts z n) i = (k : Int) := by
  obtain ⟨i, hi, e⟩ := List.mem_iff_getElem.1 ((mem_wstarts z n k).2 ⟨k, hk, rfl, hb⟩)
  exact ⟨i, hi, by rw [fn_get hi]; exact e⟩
theorem wstarts_of {z : Nat → Int} {n i : Nat} (hi : i < (wstarts z n).length) : ∃ k : Nat, k < n ∧ fn (wstarts z n) i = (k : Int) ∧ wbeg z k = true :=
  (mem_wstarts z n (fn (wstarts z n) i)).1 (by rw [fn_get hi]; exact List.getElem_mem hi)
theorem words_first {l : List Int} (hok : okF (fn l) l.length = true) (h : 0 < l.length) : 0 < (words l).length := by
  rw [words_ok hok]
  obtain ⟨i, hi, _⟩ := wstarts_idx (z := fn l) (n := l.length) (k := 0) h rfl
  omega

/-- The last start up to a letter is that of its cluster. -/
theorem starts_last (z : Nat → Int) (k : Nat) : 0 < (starts z (k + 1)).length ∧ fn (starts z (k + 1)) ((starts z (k + 1)).length - 1) = (atOf z k : Int) := by
  induction k with
  | zero =>
    have hb : begins z 0 = true := by simp [begins]
    have : starts z (0 + 1) = starts z 0 ++ [((0 : Nat) : Int)] := by simp [starts, hb]
    rw [this]
    simp [starts, fn, atOf]
  | succ k ih =>
    cases hb : begins z (k + 1)
    · have e : starts z (k + 1 + 1) = starts z (k + 1) := by rw [starts]; simp [hb]
      have hj : joins z (k + 1) = true := by simpa [begins] using hb
      rw [e, atOf_join hj]; exact ih
    · have e : starts z (k + 1 + 1) = starts z (k + 1) ++ [((k + 1 : Nat) : Int)] := by rw [starts]; simp [hb]
      rw [e, (atOf_self z (k + 1)).2 hb]
      simp [fn]

/-- The words' starts out of the clusters' starts. -/
def wpick (z : Nat → Int) (s : List Int) : Nat → List Int
  | 0 => []
  | i + 1 => if (decide (i = 0) || (wordC (z (fn s i).toNat) != wordC (z (fn s (i - 1)).toNat))) = true then wpick z s i ++ [fn s i] else wpick z s i
theorem wpick_pre (z : Nat → Int) (s t : List Int) (i : Nat) (h : i ≤ s.length) : wpick z (s ++ t) i = wpick z s i := by
  induction i with
  | zero => rfl
  | succ i ih =>
    have h1 : fn (s ++ t) i = fn s i := fn_append_left (by omega)
    have h2 : fn (s ++ t) (i - 1) = fn s (i - 1) := fn_append_left (by omega)
    simp only [wpick, h1, h2, ih (by omega)]
theorem wpick_len (z : Nat → Int) (s : List Int) (i : Nat) : (wpick z s i).length ≤ i := by
  induction i with
  | zero => simp [wpick]
  | succ i ih =>
    simp only [wpick]
    split
    · simp; omega
    · omega
theorem wpick_all (z : Nat → Int) (n : Nat) : wpick z (starts z n) (starts z n).length = wstarts z n := by
  induction n with
  | zero => rfl
  | succ k ih =>
    cases hb : begins z k
    · have e : starts z (k + 1) = starts z k := by rw [starts]; simp [hb]
      have hw : wbeg z k = false := by
        cases k with
        | zero => simp [begins] at hb
        | succ p => simp [wbeg, hb]
      rw [e, wstarts_no hw, ih]
    · have e : starts z (k + 1) = starts z k ++ [(k : Int)] := by rw [starts]; simp [hb]
      rw [e, List.length_append, List.length_singleton]
      have h1 : fn (starts z k ++ [(k : Int)]) (starts z k).length = (k : Int) := by simp [fn]
      have h0 : wpick z (starts z k ++ [(k : Int)]) (starts z k).length = wstarts z k := by rw [wpick_pre _ _ _ _ (Nat.le_refl _), ih]
      simp only [wpick, h1, h0]
      have hc : (decide ((starts z k).length = 0) || (wordC (z (k : Int).toNat) != wordC (z (fn (starts z k ++ [(k : Int)]) ((starts z k).length - 1)).toNat))) = wbeg z k := by
        cases k with
        | zero => simp [starts, wbeg]
        | succ p =>
          have hl := starts_last z p
          have h2 : fn (starts z (p + 1) ++ [((p + 1 : Nat) : Int)]) ((starts z (p + 1)).length - 1) = (atOf z p : Int) := by
            rw [fn_append_left (by omega)]; exact hl.2
          rw [h2]
          have h3 : ¬ (starts z (p + 1)).length = 0 := by omega
          simp only [wbeg, hb, h3, decide_false, Bool.false_or, Bool.true_and, Int.toNat_natCast]
      rw [hc]
      rfl

/-- From where to where the word of a letter goes. -/
structure WSpan (z : Nat → Int) (n p f t : Nat) : Prop where
  fp : f ≤ p
  fb : wbeg z f = true
  fo : ∀ j, f < j → j ≤ p → wbeg z j = false
  pt : p < t
  tn : t ≤ n
  to : ∀ j, p < j → j < t → wbeg z j = false
  tb : t < n → wbeg z t = true
theorem WSpan.one {z : Nat → Int} {n p f t f' t' : Nat} (h : WSpan z n p f t) (k : WSpan z n p f' t') : f = f' ∧ t = t' := by
  constructor
  · rcases Nat.lt_trichotomy f f' with h1 | h1 | h1
    · have := h.fo f' h1 k.fp; rw [k.fb] at this; cases this
    · exact h1
    · have := k.fo f h1 h.fp; rw [h.fb] at this; cases this
  · rcases Nat.lt_trichotomy t t' with h1 | h1 | h1
    · have := k.to t h.pt h1; rw [h.tb (by have := k.tn; omega)] at this; cases this
    · exact h1
    · have := h.to t' k.pt h1; rw [k.tb (by have := h.tn; omega)] at this; cases this
theorem wspan_found {z : Nat → Int} {n p k : Nat} (h : Found (wstarts z n) ((p : Int) + 1) k) (hp : p < n) :
    0 < k ∧ ∃ f t : Nat, fn (wstarts z n) (k - 1) = (f : Int) ∧ (if k < (wstarts z n).length then fn (wstarts z n) k = (t : Int) else t = n) ∧ WSpan z n p f t := by
  obtain ⟨i0, hi0, e0⟩ := wstarts_idx (z := z) (n := n) (k := 0) (by omega) rfl
  have hk : 0 < k := by
    rcases Nat.eq_zero_or_pos k with rfl | h1
    · have h2 := h.high (by omega)
      rcases Nat.eq_zero_or_pos i0 with rfl | h3
      · omega
      · have := wstarts_mono z n 0 i0 h3 hi0; omega
    · exact h1
  have hkl := h.le
  obtain ⟨f, hf1, hf2, hf3⟩ := wstarts_of (z := z) (n := n) (i := k - 1) (by omega)
  have hfp : f ≤ p := by have := h.low (k - 1) (by omega); omega
  have hgap : ∀ j : Nat, j < n → wbeg z j = true → f < j → p < j ∧ k < (wstarts z n).length ∧ fn (wstarts z n) k ≤ (j : Int) := by
    intro j hj hb hfj
    obtain ⟨i, hi, e⟩ := wstarts_idx hj hb
    have hik : k ≤ i := by
      rcases Nat.lt_or_ge i k with h1 | h1
      · exfalso
        rcases Nat.lt_or_ge i (k - 1) with h2 | h2
        · have := wstarts_mono z n i (k - 1) h2 (by omega); omega
        · have : i = k - 1 := by omega
          subst this; omega
      · exact h1
    have h2 : fn (wstarts z n) k ≤ fn (wstarts z n) i := by
      rcases Nat.lt_or_ge k i with h3 | h3
      · have := wstarts_mono z n k i h3 hi; omega
      · have : i = k := by omega
        subst this; omega
    have h4 := h.high (by omega)
    exact ⟨by omega, by omega, by omega⟩
  refine ⟨hk, f, if k < (wstarts z n).length then (fn (wstarts z n) k).toNat else n, hf2, ?_, ?_⟩
  · by_cases hl : k < (wstarts z n).length
    · rw [if_pos hl, if_pos hl]
      obtain ⟨q, _, h2, _⟩ := wstarts_of hl
      rw [h2]; simp
    · rw [if_neg hl, if_neg hl]
  · by_cases hl : k < (wstarts z n).length
    · rw [if_pos hl]
      obtain ⟨q, h1, h2, h3⟩ := wstarts_of hl
      have h4 := h.high hl
      rw [h2]
      simp only [Int.toNat_natCast]
      refine ⟨hfp, hf3, fun j h5 h6 => ?_, by omega, by omega, fun j h5 h6 => ?_, fun _ => h3⟩
      · cases hb : wbeg z j
        · rfl
        · have := hgap j (by omega) hb h5; omega
      · cases hb : wbeg z j
        · rfl
        · have := hgap j (by omega) hb (by omega); omega
    · rw [if_neg hl]
      refine ⟨hfp, hf3, fun j h5 h6 => ?_, hp, Nat.le_refl _, fun j h5 h6 => ?_, fun h => by omega⟩
      · cases hb : wbeg z j
        · rfl
        · have := hgap j (by omega) hb h5; omega
      · cases hb : wbeg z j
        · rfl
        · have := hgap j (by omega) hb (by omega); omega

/-- How many of a row of starts begin words. -/
def wcnt (z : Nat → Int) : List Int → Nat
  | [] => 0
  | x :: s => (if wordC (z x.toNat) = true then 1 else 0) + wcnt z s
theorem wcnt_append (z : Nat → Int) (s t : List Int) : wcnt z (s ++ t) = wcnt z s + wcnt z t := by
  induction s with
  | nil => simp [wcnt]
  | cons x s ih => simp only [List.cons_append, wcnt, ih]; omega
theorem wcnt_le (z : Nat → Int) (s : List Int) : wcnt z s ≤ s.length := by
  induction s with
  | nil => simp [wcnt]
  | cons x s ih => simp only [wcnt, List.length_cons]; split <;> omega
theorem wcnt_take {z : Nat → Int} {s : List Int} {i : Nat} (h : i < s.length) : wcnt z (s.take (i + 1)) = wcnt z (s.take i) + (if wordC (z (fn s i).toNat) = true then 1 else 0) := by
  have e : s.take (i + 1) = s.take i ++ [fn s i] := by
    rw [List.take_add_one, fn_get h]; simp [h]
  rw [e, wcnt_append]; simp [wcnt]
theorem wcnt_yes {z : Nat → Int} {k : Nat} (h : wbeg z k = true) (h2 : wordC (z k) = true) : wcnt z (wstarts z (k + 1)) = wcnt z (wstarts z k) + 1 := by
  rw [wstarts_yes h, wcnt_append]; simp [wcnt, h2]
theorem wcnt_no {z : Nat → Int} {k : Nat} (h : (wbeg z k && wordC (z k)) = false) : wcnt z (wstarts z (k + 1)) = wcnt z (wstarts z k) := by
  cases hb : wbeg z k
  · rw [wstarts_no hb]
  · have h2 : wordC (z k) = false := by simpa [hb] using h
    rw [wstarts_yes hb, wcnt_append]; simp [wcnt, h2]
end Go.Proofs.Ytanhmphmpobceaa
