import Derived.Test.YteefeciiaekdlaaScrTop
import Derived.Test.YteefeciiaekdlaaScrTopS
import Derived.Test.YteefeciiaekdlaaDrawScr
import Derived.Test.YteefeciiaekdlaaWc
namespace Go.Proofs.Yteefeciiaekdlaa
open Go.ChangeShapes Go.WideShapes Go.ChangeAt Go.RowKit
set_option linter.unusedSimpArgs false

/-- Is there a letter of a script among the first ones? -/
def anyS (z : Nat → Int) : Nat → Bool
  | 0 => false
  | k + 1 => anyS z k || (scr (z k) != 0)
theorem anyS_yes {z : Nat → Int} {n j : Nat} (hj : j < n) (h : scr (z j) ≠ 0) : anyS z n = true := by
  induction n with
  | zero => omega
  | succ n ih =>
    simp only [anyS]
    by_cases e : j = n
    · subst e; simp [h]
    · rw [ih (by omega)]; rfl
theorem anyS_no {z : Nat → Int} {n j : Nat} (hj : j < n) (h : anyS z n = false) : scr (z j) = 0 := by
  by_cases e : scr (z j) = 0
  · exact e
  · rw [anyS_yes hj e] at h; cases h
/-- Whatever holds of the first script, and of each letter's, holds of all. -/
theorem sAt_inv (P : Int → Prop) {z : Nat → Int} {f : Int} (hf : P f) (k : Nat) (hz : ∀ j, j < k → scr (z j) ≠ 0 → P (scr (z j))) : P (sAt z f k).1 ∧ ∀ i, i * 2 + 1 < (sAt z f k).2.length → P (fn (sAt z f k).2 (i * 2 + 1)) := by
  induction k with
  | zero => exact ⟨hf, fun i hi => by simp [sAt] at hi⟩
  | succ k ih =>
    obtain ⟨h1, h2⟩ := ih (fun j hj => hz j (by omega))
    obtain ⟨m, hm, _, _⟩ := sAt_ok z f k
    simp only [sAt]
    by_cases a : scr (z k) = 0
    · by_cases b : z k < mate (z k)
      · rw [sStep_open a b]
        refine ⟨h1, fun i hi => ?_⟩
        by_cases e : i = m
        · subst e
          have : fn ((sAt z f k).2 ++ [z k, (sAt z f k).1]) (i * 2 + 1) = (sAt z f k).1 := by simp [fn, List.getD, ← hm]
          rw [this]; exact h1
        · have hi2 : i * 2 + 1 < (sAt z f k).2.length := by simp at hi; omega
          rw [fn_append_left hi2]; exact h2 i hi2
      · by_cases c : mate (z k) = 0
        · rw [sStep_none a b c]; exact ⟨h1, h2⟩
        · cases d : lastB (fn (sAt z f k).2) (mate (z k)) m with
          | none => rw [sStep_miss a b c hm d]; exact ⟨h1, h2⟩
          | some i =>
            rw [sStep_hit a b c hm d]
            have hi := lastB_lt d
            refine ⟨h2 i (by omega), fun j hj => ?_⟩
            have hj2 : j * 2 + 1 < i * 2 := by simp at hj; omega
            rw [fn_take hj2]; exact h2 j (by omega)
    · rw [sStep_scr a]; exact ⟨hz k (by omega) a, h2⟩
theorem firstS_any (z : Nat → Int) (n d : Nat) (hd : d ≤ n) : (firstS z n d = 0 ∧ ∀ j, n - d ≤ j → j < n → scr (z j) = 0) ∨ (firstS z n d ≠ 0 ∧ ∃ j, j < n ∧ scr (z j) ≠ 0) := by
  induction d with
  | zero => exact .inl ⟨rfl, fun j h1 h2 => by omega⟩
  | succ d ih =>
    simp only [firstS]
    by_cases a : scr (z (n - (d + 1))) = 0
    · rw [if_neg (by simp [a])]
      rcases ih (by omega) with ⟨h1, h2⟩ | ⟨h1, h2⟩
      · refine .inl ⟨h1, fun j h3 h4 => ?_⟩
        by_cases e : j = n - (d + 1)
        · subst e; exact a
        · exact h2 j (by omega) h4
      · exact .inr ⟨h1, h2⟩
    · rw [if_pos a]; exact .inr ⟨a, _, by omega, a⟩
/-- What P62 asks of all letters. -/
theorem scr_facts {l : List Int} {n : Nat} (hn : l.length = n) (hok : okF (fn l) n = true) (k : Nat) (hk : k < n) :
    (scr (fn l k) ≠ 0 → fn (scripts l) k = scr (fn l k)) ∧ (0 < k → scr (fn l k) = 0 → mate (fn l k) = 0 → fn (scripts l) k = fn (scripts l) (k - 1)) ∧ ((anyS (fn l) n == (fn (scripts l) k == 0)) = false) := by
  subst hn
  rw [scripts_ok hok]
  refine ⟨fun h => ?_, fun h0 h1 h2 => ?_, ?_⟩
  · rw [fn_scrOut _ _ _ _ hk]; simp only [sAt]; rw [sStep_scr h]
  · rw [fn_scrOut _ _ _ _ hk, fn_scrOut _ _ _ _ (by omega), show k - 1 + 1 = k by omega]
    have hb := letter_bounds (okF_get hok hk)
    simp only [sAt]
    rw [sStep_none h1 (by omega) h2]
  · rw [fn_scrOut _ _ _ _ hk]
    rcases firstS_any (fn l) l.length l.length (Nat.le_refl _) with ⟨h1, h2⟩ | ⟨h1, j, hj, h2⟩
    · have hno : anyS (fn l) l.length = false := by
        cases e : anyS (fn l) l.length
        · rfl
        · exfalso
          have : ∀ m, m ≤ l.length → anyS (fn l) m = false := fun m hm => by
            induction m with
            | zero => rfl
            | succ m ih => simp only [anyS]; rw [ih (by omega), h2 m (by omega) (by omega)]; rfl
          rw [this _ (Nat.le_refl _)] at e; cases e
      have := (sAt_inv (fun x => x = 0) (z := fn l) h1 (k + 1) (fun j hj hne => absurd (h2 j (by omega) (by omega)) hne)).1
      rw [hno, this]; rfl
    · have := (sAt_inv (fun x => x ≠ 0) (z := fn l) h1 (k + 1) (fun j hj hne => hne)).1
      rw [anyS_yes hj h2]
      simp [this]
end Go.Proofs.Yteefeciiaekdlaa
