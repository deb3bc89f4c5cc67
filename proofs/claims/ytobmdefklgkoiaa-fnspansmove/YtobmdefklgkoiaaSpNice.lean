import Derived.Test.YtobmdefklgkoiaaSpPM
import Derived.Test.YtobmdefklgkoiaaSpBack
namespace Go.Proofs.Ytobmdefklgkoiaa
set_option linter.unusedSimpArgs false
set_option linter.unusedVariables false

theorem spQ_with (R : Runs) (a : Int × Int) (n : Nat) : ∀ b, (spQ b (withR R a n)).length ≤ (spQ b R).length + (if a.1 = 10 ∧ a.2 = 0 then 0 else 1) := by
  induction R with
  | nil =>
    intro b
    obtain ⟨s, m⟩ := a
    unfold withR
    split
    · simp [spQ]
    · simp only [spQ, List.append_nil, List.length_nil]
      split <;> simp
  | cons x r ih =>
    obtain ⟨⟨s, m⟩, k⟩ := x
    intro b
    cases r with
    | nil =>
      unfold withR
      split
      · omega
      · split
        · rename_i e; subst e; simp only [spQ, List.append_nil]; split <;> simp
        · obtain ⟨s2, m2⟩ := a
          simp only [spQ, List.append_nil, List.length_append]
          split <;> split <;> simp
    | cons y t =>
      simp only [withR]
      have := ih (b + k)
      simp only [spQ] at this ⊢
      simp only [List.length_append] at this ⊢
      omega
theorem lk_sp (z : Nat → Int) (k : Nat) : (spQ 0 (lkR z k)).length ≤ k := by
  induction k with
  | zero => simp [lkR, spQ]
  | succ k ih =>
    simp only [lkR]
    have h1 := spQ_with (withR (lkR z k) (10, 0) (z (k * 4) - enS z k).toNat) (z (k * 4 + 2), z (k * 4 + 3)) (z (k * 4 + 1) - z (k * 4)).toNat 0
    have h2 := spQ_with (lkR z k) (10, 0) (z (k * 4) - enS z k).toNat 0
    simp only [and_self, if_true] at h2
    split at h1 <;> omega
theorem looks_sp (z : Nat → Int) (n : Nat) (c : Int) : (spQ 0 (looksR z n c)).length ≤ n := by
  unfold looksR
  have h2 := spQ_with (lkR z n) (10, 0) (c - enS z n).toNat 0
  have := lk_sp z n
  simp only [and_self, if_true] at h2
  omega
theorem valid_with {R : Runs} (h : validR R) {a : Int × Int} (ha : 1 ≤ a.1 ∧ a.1 ≤ 40 ∧ 0 ≤ a.2 ∧ a.2 ≤ 9) (n : Nat) : validR (withR R a n) := by
  induction R with
  | nil =>
    unfold withR
    split
    · exact h
    · intro x hx; simp at hx; subst hx; exact ha
  | cons x r ih =>
    obtain ⟨b, k⟩ := x
    have hb := h (b, k) (by simp)
    have hr : validR r := fun y hy => h y (List.mem_cons_of_mem _ hy)
    cases r with
    | nil =>
      unfold withR
      split
      · exact h
      · split
        · intro y hy; simp at hy; subst hy; exact hb
        · intro y hy; simp at hy; rcases hy with rfl | rfl
          · exact hb
          · exact ha
    | cons y t =>
      simp only [withR]
      intro u hu
      rcases List.mem_cons.1 hu with rfl | hu
      · exact hb
      · exact ih hr u hu
theorem valid_lk {z : Nat → Int} {n : Nat} {c : Int} (h : spansOk z n c = true) : ∀ k, k ≤ n → validR (lkR z k) := by
  intro k
  induction k with
  | zero => intro _ x hx; simp [lkR] at hx
  | succ k ih =>
    intro hk
    have hr := (rowOk_parts ((spansOk_out h).2 k (by omega))).1
    exact valid_with (valid_with (ih (by omega)) (by decide) _) ⟨hr.2.2.2.2.1, hr.2.2.2.2.2.1, hr.2.2.2.2.2.2.1, hr.2.2.2.2.2.2.2⟩ _
theorem valid_looks {z : Nat → Int} {n : Nat} {c : Int} (h : spansOk z n c = true) : validR (looksR z n c) := valid_with (valid_lk h n (Nat.le_refl _)) (by decide) _
/-- How the told spans begin. -/
theorem first_sp {R : Runs} (hn : normR R) : ∀ b, ∀ x rest, spQ b R = x :: rest → b ≤ x.1 ∧ (x.1 = b → ∃ n r, R = ((x.2.2.1, x.2.2.2), n) :: r) := by
  induction R with
  | nil => intro b x rest h; simp [spQ] at h
  | cons y r ih =>
    obtain ⟨⟨s, m⟩, n⟩ := y
    obtain ⟨h1, _, h3⟩ := hn
    intro b x rest h
    simp only [spQ] at h
    split at h
    · simp only [List.nil_append] at h
      have := ih h3 (b + n) x rest h
      exact ⟨by omega, fun e => by omega⟩
    · simp only [List.cons_append, List.nil_append, List.cons.injEq] at h
      obtain ⟨h4, _⟩ := h
      subst h4
      exact ⟨Nat.le_refl _, fun _ => ⟨n, r, rfl⟩⟩
/-- None of the told spans says nothing, and of two that touch each says another thing. -/
theorem nice_sp {R : Runs} (hn : normR R) : ∀ b i (h : i < (spQ b R).length), ¬ ((spQ b R)[i].2.2.1 = 10 ∧ (spQ b R)[i].2.2.2 = 0) ∧ (∀ (hi : 0 < i), ¬ ((spQ b R)[i - 1].2.1 = (spQ b R)[i].1 ∧ (spQ b R)[i - 1].2.2.1 = (spQ b R)[i].2.2.1 ∧ (spQ b R)[i - 1].2.2.2 = (spQ b R)[i].2.2.2)) := by
  induction R with
  | nil => intro b i h; simp [spQ] at h
  | cons y r ih =>
    obtain ⟨⟨s, m⟩, n⟩ := y
    obtain ⟨h1, h2, h3⟩ := hn
    intro b i h
    by_cases hb : s = 10 ∧ m = 0
    · have e : spQ b (((s, m), n) :: r) = spQ (b + n) r := by simp only [spQ]; rw [if_pos hb]; rfl
      have := ih h3 (b + n) i (by rw [← e]; exact h)
      simp only [e]
      exact this
    · have e : spQ b (((s, m), n) :: r) = (b, b + n, s, m) :: spQ (b + n) r := by simp only [spQ]; rw [if_neg hb]; rfl
      simp only [e] at h ⊢
      cases i with
      | zero => exact ⟨hb, fun hi => by omega⟩
      | succ i =>
        have hi' : i < (spQ (b + n) r).length := by simpa using h
        have g := ih h3 (b + n) i hi'
        refine ⟨by simpa using g.1, fun _ => ?_⟩
        cases i with
        | zero =>
          simp only [Nat.add_sub_cancel, List.getElem_cons_zero, List.getElem_cons_succ]
          rintro ⟨e1, e2, e3⟩
          obtain ⟨x, rest, hx⟩ : ∃ x rest, spQ (b + n) r = x :: rest := by
            cases hq : spQ (b + n) r with
            | nil => rw [hq] at hi'; simp at hi'
            | cons x rest => exact ⟨x, rest, rfl⟩
          simp only [hx, List.getElem_cons_zero] at e1 e2 e3
          obtain ⟨k, t, ht⟩ := (first_sp h3 (b + n) x rest hx).2 e1.symm
          exact h2 _ _ _ ht (by rw [← e2, ← e3])
        | succ i =>
          have := g.2 (by omega)
          simpa using this
end Go.Proofs.Ytobmdefklgkoiaa
