import Derived.Test.YtgojdlbidjnmmaaGreatWinMath
import Derived.Test.YtgojdlbidjnmmaaGreatSides
import Derived.Test.YtgojdlbidjnmmaaGreatOk
namespace Go.Proofs.YtgojdlbidjnmmaaGreat
set_option linter.unusedSimpArgs false
set_option linter.unusedVariables false

/-- What the levels are told to be, up to a letter. -/
def toldTo (c fs : Nat → Int) (base : Int) (n i : Nat) (lv cls : List Int) : Prop :=
  lv.length = n ∧ cls.length = n ∧ (∀ j, j < i → fn lv j = lvAt c fs base j ∧ fn cls j = clAt c fs base j) ∧ ∀ j, i ≤ j → j < n → fn cls j = 0
theorem told_zero (c fs : Nat → Int) (base : Int) (n : Nat) : toldTo c fs base n 0 (List.replicate n 0) (List.replicate n 0) :=
  ⟨by simp, by simp, fun j hj => by omega, fun j _ hj => by simp [fn, hj]⟩
theorem told_step {c fs : Nat → Int} {base : Int} {n i : Nat} {lv cls : List Int} (h : toldTo c fs base n i lv cls) (hi : i < n) :
    toldTo c fs base n (i + 1) (lvSet (c i) (told c fs base i) (lv.set i (-1)) i) (clSet (c i) (told c fs base i) cls i) := by
  obtain ⟨h1, h2, h3, h4⟩ := h
  unfold lvSet clSet
  by_cases ht : tellsB (c i) = true
  · rw [if_pos ht, if_pos ht]
    refine ⟨by simp [h1], h2, fun j hj => ?_, fun j a b => h4 j (by omega) b⟩
    by_cases e : j = i
    · subst e
      rw [fn_set_same (by omega), h4 j (Nat.le_refl _) hi]
      unfold lvAt lvT clAt clT
      rw [if_pos ht, if_pos ht]; exact ⟨rfl, rfl⟩
    · rw [fn_set_other (by omega)]; exact h3 j (by omega)
  · rw [if_neg ht, if_neg ht]
    refine ⟨by simp [h1], by simp [h2], fun j hj => ?_, fun j a b => by rw [fn_set_other (by omega)]; exact h4 j (by omega) b⟩
    by_cases e : j = i
    · subst e
      rw [fn_set_same (by simp; omega), fn_set_same (by omega)]
      unfold lvAt lvT clAt clT
      rw [if_neg ht, if_neg ht]; exact ⟨rfl, rfl⟩
    · rw [fn_set_other (by omega), fn_set_other (by omega), fn_set_other (by omega)]; exact h3 j (by omega)
/-- The side by which FSI is read. -/
def fsF (c : Nat → Int) (mt : Nat → Nat) (i : Nat) : Int := sideFrom c mt (mt i) (i + 1)

def baseB (b : Int) : Bool := decide (0 ≤ b ∧ b ≤ 1)
def okT (l : List Int) (base : Int) : Bool := okF (fn l) l.length && baseB base
theorem okT_out {l : List Int} {base : Int} (h : okT l base = true) : okF (fn l) l.length = true ∧ (0 ≤ base ∧ base ≤ 1) ∧ l.length ≤ 80 := by
  simp only [okT, Bool.and_eq_true, baseB, decide_eq_true_eq] at h
  exact ⟨h.1, h.2, okF_len h.1⟩
/-- The levels as they are told, and the classes. -/
def lvL (c fs : Nat → Int) (base : Int) (n : Nat) : List Int := (List.range n).map (lvAt c fs base)
def clL (c fs : Nat → Int) (base : Int) (n : Nat) : List Int := (List.range n).map (clAt c fs base)
theorem lvL_len (c fs : Nat → Int) (base : Int) (n : Nat) : (lvL c fs base n).length = n := by simp [lvL]
theorem clL_len (c fs : Nat → Int) (base : Int) (n : Nat) : (clL c fs base n).length = n := by simp [clL]
theorem fn_lvL {c fs : Nat → Int} {base : Int} {n j : Nat} (h : j < n) : fn (lvL c fs base n) j = lvAt c fs base j := by simp [fn, lvL, h]
theorem fn_clL {c fs : Nat → Int} {base : Int} {n j : Nat} (h : j < n) : fn (clL c fs base n) j = clAt c fs base j := by simp [fn, clL, h]
theorem told_end {c fs : Nat → Int} {base : Int} {n : Nat} {lv cls : List Int} (h : toldTo c fs base n n lv cls) : lv = lvL c fs base n ∧ cls = clL c fs base n :=
  ⟨ext_fn (by rw [lvL_len]; exact h.1) (fun j hj => by have := h.1; rw [(h.2.2.1 j (by omega)).1, fn_lvL (by omega)]), ext_fn (by rw [clL_len]; exact h.2.1) (fun j hj => by have := h.2.1; rw [(h.2.2.1 j (by omega)).2, fn_clL (by omega)])⟩
def toldL (l : List Int) (mt : Nat → Nat) (base : Int) : List Int := if okT l base = true then lvL (cl l) (fsF (cl l) mt) base l.length else []
def toldC (l : List Int) (mt : Nat → Nat) (base : Int) : List Int := if okT l base = true then clL (cl l) (fsF (cl l) mt) base l.length else []

theorem toldL_le (l : List Int) (mt : Nat → Nat) (base : Int) : (toldL l mt base).length ≤ l.length := by unfold toldL; split <;> simp [lvL_len]
theorem toldC_le (l : List Int) (mt : Nat → Nat) (base : Int) : (toldC l mt base).length ≤ l.length := by unfold toldC; split <;> simp [clL_len]
end Go.Proofs.YtgojdlbidjnmmaaGreat
