import Derived.Test.YtobmdefklgkoiaaSpLawM2
namespace Go.Proofs.Ytobmdefklgkoiaa
set_option linter.unusedSimpArgs false
set_option linter.unusedVariables false

/-- How often a look that is told begins. -/
def newL (p x : Int × Int) : Nat := if x ≠ p ∧ x ≠ (10, 0) then 1 else 0
def cntL (p : Int × Int) : List (Int × Int) → Nat
  | [] => 0
  | x :: t => newL p x + cntL x t
def lastL (p : Int × Int) : List (Int × Int) → Int × Int
  | [] => p
  | x :: t => lastL x t
theorem cntL_app (A B : List (Int × Int)) : ∀ p, cntL p (A ++ B) = cntL p A + cntL (lastL p A) B := by
  induction A with
  | nil => intro p; simp [cntL, lastL]
  | cons x t ih => intro p; simp only [List.cons_append, cntL, lastL, ih]; omega
theorem cntL_rep (p : Int × Int) (n : Nat) (B : List (Int × Int)) : cntL p (List.replicate n p ++ B) = cntL p B := by
  induction n with
  | zero => simp
  | succ n ih => simp only [List.replicate_succ, List.cons_append, cntL, ih]; simp [newL]
theorem cntL_step (p x : Int × Int) (B : List (Int × Int)) : cntL p B ≤ newL p x + cntL x B := by
  cases B with
  | nil => simp [cntL]
  | cons y t =>
    simp only [cntL]
    have : newL p y ≤ newL p x + newL x y := by
      unfold newL
      by_cases h : y ≠ p ∧ y ≠ (10, 0)
      · rw [if_pos h]
        by_cases e : y = x
        · subst e; rw [if_pos h]; omega
        · rw [if_pos (c := y ≠ x ∧ y ≠ (10, 0)) ⟨e, h.2⟩]; omega
      · rw [if_neg h]; omega
    omega
theorem cntL_cut (M B : List (Int × Int)) : ∀ p, cntL p B ≤ cntL p (M ++ B) := by
  induction M with
  | nil => intro p; simp
  | cons x t ih =>
    intro p
    simp only [List.cons_append, cntL]
    have h1 := ih x
    have h2 := cntL_step p x B
    omega
theorem spQ_cnt {R : Runs} (hn : normR R) : ∀ b p, (∀ c m q, R = (c, m) :: q → c ≠ p ∨ c = (10, 0)) → (spQ b R).length = cntL p (expandR R) := by
  induction R with
  | nil => intro b p _; simp [spQ, expandR, cntL]
  | cons x r ih =>
    obtain ⟨⟨s, m⟩, n⟩ := x
    obtain ⟨h1, h2, h3⟩ := hn
    intro b p hp
    obtain ⟨n', rfl⟩ : ∃ n', n = n' + 1 := ⟨n - 1, by omega⟩
    simp only [spQ, expandR, List.replicate_succ, List.cons_append, cntL, cntL_rep, List.length_append]
    rw [ih h3 _ (s, m) (fun c k q e => .inl (fun e2 => h2 c k q e e2.symm))]
    have h4 := hp (s, m) _ _ rfl
    unfold newL
    by_cases hb : s = 10 ∧ m = 0
    · rw [if_pos hb, if_neg (by rintro ⟨_, h⟩; exact h (by rw [hb.1, hb.2]))]; simp
    · rw [if_neg hb, if_pos]
      · simp
      · refine ⟨h4.resolve_right (fun e => ?_), fun e => ?_⟩ <;> (injection e with e1 e2; exact hb ⟨e1, e2⟩)
theorem spQ_cnt0 {R : Runs} (hn : normR R) (b : Nat) : (spQ b R).length = cntL (10, 0) (expandR R) := spQ_cnt hn b _ (fun c m q _ => by by_cases h : c = (10, 0) <;> simp [h])
theorem last_at (x : List (Int × Int)) : ∀ (p : Int × Int) (a : Nat), 0 < a → a ≤ x.length → x[a - 1]? = some (lastL p (x.take a)) := by
  induction x with
  | nil => intro p a h1 h2; simp at h2; omega
  | cons y t ih =>
    intro p a h1 h2
    obtain ⟨a', rfl⟩ : ∃ a', a = a' + 1 := ⟨a - 1, by omega⟩
    rw [List.take_succ_cons, Nat.add_sub_cancel]
    simp only [lastL]
    cases a' with
    | zero => simp [lastL]
    | succ a'' =>
      have := ih y (a'' + 1) (by omega) (by simp at h2; omega)
      rw [Nat.add_sub_cancel] at this
      rw [← this, List.getElem?_cons_succ]
section
variable {z : Nat → Int} {n C A : Nat} {k : Int}
/-- The look of what comes in. -/
def inL (z : Nat → Int) (n A : Nat) : Int × Int := if 0 < A then lookAt z n ((A : Int) - 1) else (10, 0)
theorem ah_inL (h : spansOk z n (C : Int) = true) (hA : A ≤ C) : ahR 0 (10, 0) (looksR z n (C : Int)) A = inL z n A ∧ inL z n A = lastL (10, 0) ((looksS z n C).take A) := by
  have hx := expand_looks h
  rw [Int.toNat_natCast] at hx
  have hcn : cntR (looksR z n (C : Int)) = C := by rw [← cnt_len, hx, looksS_len]
  by_cases p : 0 < A
  · have h1 := ah_is (looksR z n (C : Int)) 0 (10, 0) A (norm_looks z n _) p (by rw [hcn]; omega)
    rw [hx, Nat.sub_zero, looks_at (by omega)] at h1
    have h2 := last_at (looksS z n C) (10, 0) A p (by rw [looksS_len]; omega)
    rw [looks_at (by omega)] at h2
    have h3 := Option.some.inj h1
    have h4 := Option.some.inj h2
    have e : ((A - 1 : Nat) : Int) = (A : Int) - 1 := by omega
    rw [e] at h3 h4
    unfold inL
    rw [if_pos p]
    exact ⟨h3.symm, h4⟩
  · have e : A = 0 := by omega
    subst e
    rw [ah_keep _ _ _ _ (by omega)]
    exact ⟨rfl, rfl⟩
theorem move_expand (h : spansOk z n (C : Int) = true) (hA : A ≤ C) : expandR (moveRuns (looksR z n (C : Int)) A k C) = (looksS z n C).take A ++ (List.replicate k.toNat (inL z n A) ++ (looksS z n C).drop (A + (-k).toNat)) := by
  rw [expand_move, expand_looks h, Int.toNat_natCast, List.take_of_length_le (i := C) (by rw [looksS_len]; exact Nat.le_refl _), (ah_inL h hA).1]
theorem move_sp (h : spansOk z n (C : Int) = true) (hA : A ≤ C) : (spQ 0 (moveRuns (looksR z n (C : Int)) A k C)).length ≤ 12 := by
  have h1 := looks_sp z n (C : Int)
  rw [spQ_cnt0 (norm_looks _ _ _), expand_looks h, Int.toNat_natCast] at h1
  rw [spQ_cnt0 (norm_move _ _ _ _), move_expand h hA, cntL_app, (ah_inL h hA).2, cntL_rep]
  have h2 : looksS z n C = (looksS z n C).take A ++ (((looksS z n C).drop A).take ((-k).toNat) ++ (looksS z n C).drop (A + (-k).toNat)) := by
    rw [← List.drop_drop, List.take_append_drop, List.take_append_drop]
  rw [h2, cntL_app] at h1
  have h3 := cntL_cut (((looksS z n C).drop A).take ((-k).toNat)) ((looksS z n C).drop (A + (-k).toNat)) (lastL (10, 0) ((looksS z n C).take A))
  have := (spansOk_out h).1
  omega
theorem move_good (h : spansOk z n (C : Int) = true) (hA : A ≤ C) : validR (moveRuns (looksR z n (C : Int)) A k C) := by
  have hg := expand_good (valid_looks h)
  rw [expand_looks h, Int.toNat_natCast] at hg
  refine valid_expand (norm_move _ _ _ _) (fun a ha => ?_)
  rw [move_expand h hA] at ha
  simp only [List.mem_append, List.mem_replicate] at ha
  rcases ha with ha | ⟨_, rfl⟩ | ha
  · exact hg a (List.mem_of_mem_take ha)
  · unfold inL
    split
    · rename_i p
      have h2 := looks_at (z := z) (n := n) (C := C) (i := A - 1) (by omega)
      rw [show ((A - 1 : Nat) : Int) = (A : Int) - 1 by omega] at h2
      exact hg _ (List.mem_of_getElem? h2)
    · exact ⟨by decide, by decide, by decide, by decide⟩
  · exact hg a (List.mem_of_mem_drop ha)
theorem move_cntC (h : spansOk z n (C : Int) = true) (hA : A ≤ C) (hk : (A : Int) - (C : Int) ≤ k) {D : Nat} (hD : (D : Int) = (C : Int) + k) : cntR (moveRuns (looksR z n (C : Int)) A k C) = D := by
  rw [← cnt_len, move_expand h hA]
  simp [looksS_len]
  omega
/-- Whose look a letter has. -/
def lookM (z : Nat → Int) (n A : Nat) (k : Int) (i : Nat) : Int × Int :=
  if i < A then lookAt z n (i : Int) else if k < 0 then lookAt z n ((i : Int) - k) else if (i : Int) < (A : Int) + k then inL z n A else lookAt z n ((i : Int) - k)
theorem move_get (h : spansOk z n (C : Int) = true) (hA : A ≤ C) (hk : (A : Int) - (C : Int) ≤ k) {i : Nat} (hi : (i : Int) < (C : Int) + k) : (expandR (moveRuns (looksR z n (C : Int)) A k C))[i]? = some (lookM z n A k i) := by
  rw [move_expand h hA]
  have hl : ((looksS z n C).take A).length = A := by simp [looksS_len]; omega
  unfold lookM
  by_cases h1 : i < A
  · rw [List.getElem?_append_left (by omega), List.getElem?_take, if_pos h1, if_pos h1, looks_at (by omega)]
  · rw [List.getElem?_append_right (by omega), hl, if_neg h1]
    by_cases h2 : k < 0
    · rw [if_pos h2, show k.toNat = 0 by omega]
      simp only [List.replicate_zero, List.nil_append]
      rw [List.getElem?_drop, looks_at (by omega), show ((A + (-k).toNat + (i - A) : Nat) : Int) = (i : Int) - k by omega]
    · rw [if_neg h2]
      by_cases h3 : (i : Int) < (A : Int) + k
      · rw [if_pos h3, List.getElem?_append_left (by simp; omega), List.getElem?_replicate, if_pos (by omega)]
      · rw [if_neg h3, List.getElem?_append_right (by simp; omega), List.length_replicate, List.getElem?_drop, looks_at (by omega)]
        rw [show ((A + (-k).toNat + (i - A - k.toNat) : Nat) : Int) = (i : Int) - k by omega]
/-- Moved there and back it is as it was. -/
theorem move_again (h : spansOk z n (C : Int) = true) (hA : A ≤ C) (hk : 0 ≤ k) {D : Nat} (hD : (D : Int) = (C : Int) + k) : moveRuns (moveRuns (looksR z n (C : Int)) A k C) A (-k) D = looksR z n (C : Int) := by
  refine norm_ext (norm_move _ _ _ _) (norm_looks _ _ _) ?_
  have hc := move_cntC (k := k) h hA (by omega) hD
  rw [expand_move, List.take_of_length_le (i := D) (by rw [cnt_len, hc]; exact Nat.le_refl _), move_expand h hA, expand_looks h, Int.toNat_natCast]
  have hl : ((looksS z n C).take A).length = A := by simp [looksS_len]; omega
  have e1 : (-k).toNat = 0 := by omega
  rw [e1, Int.neg_neg, List.take_append_of_le_length (by omega), List.take_of_length_le (l := (looksS z n C).take A) (by omega)]
  simp only [List.replicate_zero, List.nil_append, Nat.add_zero]
  rw [List.drop_append, hl, List.drop_of_length_le (by omega), List.nil_append, List.drop_append, List.length_replicate, List.drop_of_length_le (by rw [List.length_replicate]; omega), List.nil_append, show A + k.toNat - A - k.toNat = 0 by omega, List.drop_zero, List.take_append_drop]
end
/-- What is moved, once told. -/
theorem moveS_told {z : Nat → Int} {n : Nat} {C A : Nat} {k : Int} (hb : moveOk z n (C : Int) (A : Int) k = true) {D : Nat} (hD : (D : Int) = (C : Int) + k) :
    (∀ i : Nat, i < D → spanAt (fn (spR 0 (moveS z n (C : Int) (A : Int) k))) (spQ 0 (moveS z n (C : Int) (A : Int) k)).length (i : Int) = lookM z n A k i) ∧
    (0 ≤ k → moveS (fn (spR 0 (moveS z n (C : Int) (A : Int) k))) (spQ 0 (moveS z n (C : Int) (A : Int) k)).length (D : Int) (A : Int) (-k) = plainS z n (C : Int)) ∧
    (spQ 0 (moveS z n (C : Int) (A : Int) k)).length ≤ 12 := by
  have hb0 := hb
  unfold moveOk at hb0
  rw [Bool.and_eq_true, decide_eq_true_eq] at hb0
  obtain ⟨hok, q1, q2, q3, q4⟩ := hb0
  have hA : A ≤ C := by omega
  have e : moveS z n (C : Int) (A : Int) k = moveRuns (looksR z n (C : Int)) A k C := by unfold moveS; rw [if_pos hb]; simp
  rw [e]
  have hc80 := (spansOk_out hok).1
  have h12 := move_sp (k := k) hok hA
  have hv := move_good (k := k) hok hA
  have hn := norm_move (looksR z n (C : Int)) A k C
  have hcn := move_cntC hok hA q3 hD
  have hto := told_ok hv hn h12 hcn (by omega)
  have hbk : looksR (fn (spR 0 (moveRuns (looksR z n (C : Int)) A k C))) (spQ 0 (moveRuns (looksR z n (C : Int)) A k C)).length (D : Int) = moveRuns (looksR z n (C : Int)) A k C := by
    have := runs_back hv hn h12 (by omega)
    rw [hcn] at this
    exact this
  refine ⟨fun i hi => ?_, fun hk => ?_, h12⟩
  · have g := told_at hv hn h12 hcn (by omega) hi
    rw [move_get hok hA q3 (by omega)] at g
    exact (Option.some.inj g).symm
  · have hm : moveOk (fn (spR 0 (moveRuns (looksR z n (C : Int)) A k C))) (spQ 0 (moveRuns (looksR z n (C : Int)) A k C)).length (D : Int) (A : Int) (-k) = true := by
      unfold moveOk
      rw [hto, Bool.true_and, decide_eq_true_eq]
      omega
    unfold moveS
    rw [if_pos hm, hbk, Int.toNat_natCast, Int.toNat_natCast, move_again hok hA hk hD]
    unfold plainS
    rw [if_pos hok]
end Go.Proofs.Ytobmdefklgkoiaa
