import Derived.Test.YteefeciiaekdlaaRunRow
namespace Go.Proofs.Yteefeciiaekdlaa
set_option linter.unusedSimpArgs false

/-- The runs that are shut, where the last one begins, and its level. -/
def rS (z : Nat → Int) : Nat → List Int × Int × Int
  | 0 => ([], 0, -1)
  | k + 1 => if (rS z k).2.2 < 0 then ((rS z k).1, (rS z k).2.1, z k)
    else if 0 ≤ z k ∧ z k ≠ (rS z k).2.2 then ((rS z k).1 ++ [(rS z k).2.1, (k : Int), (rS z k).2.2], (k : Int), z k) else rS z k
def flat (z : Nat → Int) (k : Nat) : List Int := (rS z k).1 ++ [(rS z k).2.1, (k : Int), (rS z k).2.2]
def runsR (lv : List Int) : List Int := if lvF (fn lv) lv.length = true ∧ lv.length ≠ 0 then flat (fn lv) lv.length else []
theorem rS_len (z : Nat → Int) (k : Nat) : ∃ m, (rS z k).1.length = m * 3 ∧ m ≤ k := by
  induction k with
  | zero => exact ⟨0, rfl, Nat.le_refl _⟩
  | succ k ih =>
    obtain ⟨m, h, hm⟩ := ih
    simp only [rS]
    split
    · exact ⟨m, h, by omega⟩
    · split
      · exact ⟨m + 1, by simp [h]; omega, by omega⟩
      · exact ⟨m, h, by omega⟩
theorem rS_low {z : Nat → Int} {n : Nat} (h : ∀ j, j < n → -1 ≤ z j) (k : Nat) (hk : k ≤ n) : -1 ≤ (rS z k).2.2 := by
  induction k with
  | zero => simp [rS]
  | succ k ih =>
    have := ih (by omega)
    have := h k (by omega)
    simp only [rS]
    split
    · assumption
    · split
      · assumption
      · assumption
theorem set_mid (F : List Int) (a b c x : Int) : (F ++ [a, b, c]).set (F.length + 1) x = F ++ [a, x, c] := by
  simp
theorem set_end (F : List Int) (a b c x : Int) : (F ++ [a, b, c]).set (F.length + 2) x = F ++ [a, b, x] := by
  simp
theorem fn_end (F : List Int) (a b c : Int) : fn (F ++ [a, b, c]) (F.length + 2) = c := by simp [fn, List.getD]
end Go.Proofs.Yteefeciiaekdlaa
