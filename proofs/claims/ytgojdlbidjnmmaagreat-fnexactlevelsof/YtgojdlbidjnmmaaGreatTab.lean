import Derived.Test.YtgojdlbidjnmmaaGreatFirst
namespace Go.Proofs.YtgojdlbidjnmmaaGreat
open Go.ChangeShapes Go.WideShapes Go.ChangeAt Go.RowKit
set_option linter.unusedSimpArgs false

def tab : Array Value := #[.int .i64 9, .int .i64 9, .int .i64 11, .int .i64 32, .int .i64 32, .int .i64 12, .int .i64 35, .int .i64 37, .int .i64 6, .int .i64 43, .int .i64 43, .int .i64 5, .int .i64 44, .int .i64 44, .int .i64 8, .int .i64 45, .int .i64 45, .int .i64 5, .int .i64 46, .int .i64 47, .int .i64 8, .int .i64 48, .int .i64 57, .int .i64 4, .int .i64 58, .int .i64 58, .int .i64 8, .int .i64 65, .int .i64 90, .int .i64 1, .int .i64 97, .int .i64 122, .int .i64 1, .int .i64 173, .int .i64 173, .int .i64 10, .int .i64 768, .int .i64 879, .int .i64 9, .int .i64 1488, .int .i64 1514, .int .i64 2, .int .i64 1569, .int .i64 1610, .int .i64 3, .int .i64 1632, .int .i64 1641, .int .i64 7, .int .i64 8203, .int .i64 8203, .int .i64 10, .int .i64 8205, .int .i64 8205, .int .i64 10, .int .i64 8234, .int .i64 8234, .int .i64 14, .int .i64 8235, .int .i64 8235, .int .i64 15, .int .i64 8236, .int .i64 8236, .int .i64 16, .int .i64 8237, .int .i64 8237, .int .i64 17, .int .i64 8238, .int .i64 8238, .int .i64 18, .int .i64 8294, .int .i64 8294, .int .i64 19, .int .i64 8295, .int .i64 8295, .int .i64 20, .int .i64 8296, .int .i64 8296, .int .i64 21, .int .i64 8297, .int .i64 8297, .int .i64 22, .int .i64 19968, .int .i64 40959, .int .i64 1]
def zeros : Array Value := Array.replicate 84 (.int .i64 0)
def firsts (m : Nat) : Int := [9, 32, 35, 43, 44, 45, 46, 48, 58, 65, 97, 173, 768, 1488, 1569, 1632, 8203, 8205, 8234, 8235, 8236, 8237, 8238, 8294, 8295, 8296, 8297, 19968].getD m 0
def lasts (m : Nat) : Int := [9, 32, 37, 43, 44, 45, 47, 57, 58, 90, 122, 173, 879, 1514, 1610, 1641, 8203, 8205, 8234, 8235, 8236, 8237, 8238, 8294, 8295, 8296, 8297, 40959].getD m 0
def kinds (m : Nat) : Int := [11, 12, 6, 5, 8, 5, 8, 4, 8, 1, 1, 10, 9, 2, 3, 7, 10, 10, 14, 15, 16, 17, 18, 19, 20, 21, 22, 1].getD m 0

theorem split28 {m : Nat} (h : m < 28) : m = 0 ∨ m = 1 ∨ m = 2 ∨ m = 3 ∨ m = 4 ∨ m = 5 ∨ m = 6 ∨ m = 7 ∨ m = 8 ∨ m = 9 ∨ m = 10 ∨ m = 11 ∨ m = 12 ∨ m = 13 ∨ m = 14 ∨ m = 15 ∨ m = 16 ∨ m = 17 ∨ m = 18 ∨ m = 19 ∨ m = 20 ∨ m = 21 ∨ m = 22 ∨ m = 23 ∨ m = 24 ∨ m = 25 ∨ m = 26 ∨ m = 27 := by omega
theorem tab_last (m : Nat) (h : m < 28) : tab[m * 3 + 1]? = some (.int .i64 (lasts m)) := by
  rcases split28 h with rfl | rfl | rfl | rfl | rfl | rfl | rfl | rfl | rfl | rfl | rfl | rfl | rfl | rfl | rfl | rfl | rfl | rfl | rfl | rfl | rfl | rfl | rfl | rfl | rfl | rfl | rfl | rfl <;> rfl
theorem tab_first (m : Nat) (h : m < 28) : tab[m * 3]? = some (.int .i64 (firsts m)) := by
  rcases split28 h with rfl | rfl | rfl | rfl | rfl | rfl | rfl | rfl | rfl | rfl | rfl | rfl | rfl | rfl | rfl | rfl | rfl | rfl | rfl | rfl | rfl | rfl | rfl | rfl | rfl | rfl | rfl | rfl <;> rfl
theorem tab_kind (m : Nat) (h : m < 28) : tab[m * 3 + 2]? = some (.int .i64 (kinds m)) := by
  rcases split28 h with rfl | rfl | rfl | rfl | rfl | rfl | rfl | rfl | rfl | rfl | rfl | rfl | rfl | rfl | rfl | rfl | rfl | rfl | rfl | rfl | rfl | rfl | rfl | rfl | rfl | rfl | rfl | rfl <;> rfl
theorem lasts_up1 (m : Nat) (h : m < 27) : lasts m ≤ lasts (m + 1) := by
  rcases split28 (show m < 28 by omega) with rfl | rfl | rfl | rfl | rfl | rfl | rfl | rfl | rfl | rfl | rfl | rfl | rfl | rfl | rfl | rfl | rfl | rfl | rfl | rfl | rfl | rfl | rfl | rfl | rfl | rfl | rfl | rfl <;> first | omega | decide
theorem lasts_up (i j : Nat) (h : i ≤ j) (hj : j < 28) : lasts i ≤ lasts j := by
  induction j with
  | zero => have : i = 0 := by omega
            subst this; exact Int.le_refl _
  | succ j ih =>
    by_cases e : i = j + 1
    · subst e; exact Int.le_refl _
    · exact Int.le_trans (ih (by omega) (by omega)) (lasts_up1 j (by omega))

theorem tab_end (r : Int) (h : lasts 27 < r) : bidi r = 13 := by
  simp only [lasts, List.getD_cons_succ, List.getD_cons_zero] at h
  unfold bidi signs moves
  repeat (first | rfl | rw [if_neg (by omega)])
theorem tab_miss (r : Int) (m : Nat) (hm : m < 28) (h1 : 0 < m → lasts (m - 1) < r) (h2 : r < firsts m) : bidi r = 13 := by
  rcases split28 hm with rfl | rfl | rfl | rfl | rfl | rfl | rfl | rfl | rfl | rfl | rfl | rfl | rfl | rfl | rfl | rfl | rfl | rfl | rfl | rfl | rfl | rfl | rfl | rfl | rfl | rfl | rfl | rfl <;> (simp [lasts, firsts] at h1 h2; unfold bidi signs moves; repeat (first | rfl | rw [if_neg (by omega)]))
theorem tab_hit (r : Int) (m : Nat) (hm : m < 28) (h1 : r ≤ lasts m) (h2 : firsts m ≤ r) : bidi r = kinds m := by
  rcases split28 hm with rfl | rfl | rfl | rfl | rfl | rfl | rfl | rfl | rfl | rfl | rfl | rfl | rfl | rfl | rfl | rfl | rfl | rfl | rfl | rfl | rfl | rfl | rfl | rfl | rfl | rfl | rfl | rfl <;> (simp only [lasts, firsts, kinds, List.getD_cons_succ, List.getD_cons_zero] at h1 h2 ⊢; unfold bidi signs moves; repeat (first | rfl | rw [if_pos (by omega)] | rw [if_neg (by omega)]))
end Go.Proofs.YtgojdlbidjnmmaaGreat
