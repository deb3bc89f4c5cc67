import Derived.Test.YtobmdefklgkoiaaSpMove
import Derived.Test.YtobmdefklgkoiaaLkRow
namespace Go.Proofs.Ytobmdefklgkoiaa
open Go.ChangeShapes Go.WideShapes Go.ChangeAt Go.RowKit
set_option linter.unusedSimpArgs false
set_option linter.unusedVariables false

/-- The numbers of runs, one behind the other. -/
def flatL : Runs → List Int
  | [] => []
  | ((s, m), n) :: r => s :: m :: (n : Int) :: flatL r
theorem flatL_app (P Q : Runs) : flatL (P ++ Q) = flatL P ++ flatL Q := by
  induction P with
  | nil => rfl
  | cons x r ih => obtain ⟨⟨s, m⟩, n⟩ := x; simp only [List.cons_append, flatL, ih]
theorem flatL_len (P : Runs) : (flatL P).length = P.length * 3 := by
  induction P with
  | nil => rfl
  | cons x r ih => obtain ⟨⟨s, m⟩, n⟩ := x; simp only [flatL, List.length_cons, ih]; omega
theorem fn_flatL : ∀ (P : Runs) (i : Nat) (h : i < P.length), fn (flatL P) (i * 3) = P[i].1.1 ∧ fn (flatL P) (i * 3 + 1) = P[i].1.2 ∧ fn (flatL P) (i * 3 + 2) = (P[i].2 : Int)
  | [], i, h => by simp at h
  | ((s, m), n) :: r, 0, h => ⟨rfl, rfl, rfl⟩
  | ((s, m), n) :: r, i + 1, h => by
    have := fn_flatL r i (by simpa using h)
    rw [show (i + 1) * 3 = i * 3 + 1 + 1 + 1 by omega]
    simpa [flatL, fn] using this
theorem with_zero (R : Runs) (a : Int × Int) : withR R a 0 = R := by
  induction R with
  | nil => rfl
  | cons x r ih =>
    obtain ⟨b, m⟩ := x
    cases r with
    | nil => simp [withR]
    | cons y s => simp only [withR, ih]
theorem with_nil {a : Int × Int} {n : Nat} (h : 0 < n) : withR [] a n = [(a, n)] := by simp only [withR]; rw [if_neg (by omega)]
theorem with_same {P : Runs} {a : Int × Int} {m n : Nat} (h : 0 < n) : withR (P ++ [(a, m)]) a n = P ++ [(a, m + n)] := by
  induction P with
  | nil => simp only [List.nil_append, withR]; rw [if_neg (by omega)]; simp
  | cons x r ih =>
    cases hr : r ++ [(a, m)] with
    | nil => simp at hr
    | cons y s => simp only [List.cons_append, hr, withR]; rw [← hr, ih]
theorem with_other {P : Runs} {a b : Int × Int} {m n : Nat} (h : 0 < n) (hb : b ≠ a) : withR (P ++ [(b, m)]) a n = P ++ [(b, m)] ++ [(a, n)] := by
  induction P with
  | nil => simp only [List.nil_append, withR]; rw [if_neg (by omega), if_neg hb]; rfl
  | cons x r ih =>
    cases hr : r ++ [(b, m)] with
    | nil => simp at hr
    | cons y s => simp only [List.cons_append, hr, withR]; rw [hr] at ih; rw [ih]; rfl
theorem with_len (R : Runs) (a : Int × Int) (n : Nat) : (withR R a n).length ≤ R.length + 1 := by
  rcases List.eq_nil_or_concat R with rfl | ⟨P, ⟨b, m⟩, rfl⟩
  · unfold withR; split <;> simp
  · rcases Nat.eq_zero_or_pos n with rfl | h
    · rw [with_zero]; omega
    · by_cases e : b = a
      · subst e; rw [List.concat_eq_append, with_same h]; simp
      · rw [List.concat_eq_append, with_other h e]; simp
theorem cnt_with (R : Runs) (a : Int × Int) (n : Nat) : cntR (withR R a n) = cntR R + n := by
  rw [← cnt_len, expand_with, List.length_append, cnt_len]; simp
theorem norm_le {R : Runs} (h : normR R) : R.length ≤ cntR R := by
  induction R with
  | nil => exact Nat.zero_le _
  | cons x r ih =>
    obtain ⟨a, n⟩ := x
    obtain ⟨h1, _, h3⟩ := h
    have := ih h3
    simp only [List.length_cons, cntR]
    omega
/-- The last run's count grows. -/
theorem flatL_last (P : Runs) (a : Int × Int) (m n : Nat) : (flatL (P ++ [(a, m)])).set (P.length * 3 + 2) ((m : Int) + (n : Int)) = flatL (P ++ [(a, m + n)]) := by
  rw [flatL_app, flatL_app, List.set_append_right _ _ (by rw [flatL_len]; omega), flatL_len, show P.length * 3 + 2 - P.length * 3 = 2 by omega]
  congr 1
theorem fn_last (P : Runs) (a : Int × Int) (m : Nat) : fn (flatL (P ++ [(a, m)])) (P.length * 3) = a.1 ∧ fn (flatL (P ++ [(a, m)])) (P.length * 3 + 1) = a.2 ∧ fn (flatL (P ++ [(a, m)])) (P.length * 3 + 2) = (m : Int) := by
  have := fn_flatL (P ++ [(a, m)]) P.length (by simp)
  simpa using this
end Go.Proofs.Ytobmdefklgkoiaa
