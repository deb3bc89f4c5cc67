import Derived.Test.YtbeecmcgdlnakaaToldL
namespace Go.Proofs.Ytbeecmcgdlnakaa
set_option linter.unusedSimpArgs false
set_option linter.unusedVariables false

/-- As long as nothing was told all have the level of all. -/
theorem told_none {c fs : Nat → Int} {base : Int} {k : Nat} (h : ∀ j, j < k → c j < 14) : told c fs base k = ⟨[⟨base, 0, false⟩], 0, 0⟩ := by
  induction k with
  | zero => rfl
  | succ k ih =>
    have hc := h k (by omega)
    simp only [told]
    rw [ih (fun j hj => h j (by omega))]
    have ho : opensB (c k) = false := by unfold opensB; simp; omega
    unfold stepT
    rw [ho, if_neg (by simp), if_neg (by omega), if_neg (by omega), if_neg (by omega), if_neg (by omega), if_neg (by omega), if_neg (by omega)]
theorem lvAt_none {c fs : Nat → Int} {base : Int} {k : Nat} (h : ∀ j, j < k → c j < 14) (ht : tellsB (c k) = false) : lvAt c fs base k = base := by
  unfold lvAt lvT
  rw [ht, if_neg (by simp), told_none h]
  unfold atT
  split
  · rfl
  · rfl
theorem tells_yes {c : Int} : tellsB c = true ↔ c = 10 ∨ (14 ≤ c ∧ c ≤ 18) := by unfold tellsB; exact decide_eq_true_iff
theorem tells_no {c : Int} : tellsB c = false ↔ ¬ (c = 10 ∨ (14 ≤ c ∧ c ≤ 18)) := by unfold tellsB; exact decide_eq_false_iff_not
theorem toldL_yes {l : List Int} {mt : Nat → Nat} {base : Int} (h : okT l base = true) : toldL l mt base = lvL (cl l) (fsF (cl l) mt) base l.length ∧ toldC l mt base = clL (cl l) (fsF (cl l) mt) base l.length := by
  unfold toldL toldC; rw [if_pos h, if_pos h]; exact ⟨rfl, rfl⟩
theorem toldL_no {l : List Int} {mt : Nat → Nat} {base : Int} (h : ¬ okT l base = true) : toldL l mt base = [] ∧ toldC l mt base = [] := by
  unfold toldL toldC; rw [if_neg h, if_neg h]; exact ⟨rfl, rfl⟩
/-- What is said of a letter. -/
theorem told_is {l : List Int} {mt : Nat → Nat} {base : Int} (h : okT l base = true) {k : Nat} (hk : k < l.length) :
    ((cl l k = 10 ∨ (14 ≤ cl l k ∧ cl l k ≤ 18)) ∧ fn (toldL l mt base) k = -1) ∨ (¬ (cl l k = 10 ∨ (14 ≤ cl l k ∧ cl l k ≤ 18)) ∧ 0 ≤ fn (toldL l mt base) k ∧ fn (toldL l mt base) k ≤ 20 ∧ ((∀ j, j < k → cl l j < 14) → fn (toldL l mt base) k = base)) := by
  obtain ⟨_, hb, _⟩ := okT_out h
  rw [(toldL_yes h).1, fn_lvL hk]
  rcases lvAt_bd (cl l) (fsF (cl l) mt) hb k with ⟨h1, h2⟩ | ⟨h1, h2, h3⟩
  · exact .inl ⟨tells_yes.1 h1, h2⟩
  · exact .inr ⟨tells_no.1 h1, by omega, h3, fun hj => lvAt_none hj h1⟩
end Go.Proofs.Ytbeecmcgdlnakaa
