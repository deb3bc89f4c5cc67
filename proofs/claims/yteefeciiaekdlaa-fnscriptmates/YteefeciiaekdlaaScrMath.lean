import Derived.Test.YteefeciiaekdlaaScrFn
import Derived.Test.YteefeciiaekdlaaMateD
import Derived.Test.YteefeciiaekdlaaOk
namespace Go.Proofs.Yteefeciiaekdlaa
set_option linter.unusedSimpArgs false

/-- The last pair whose first number is b. -/
def lastB (z : Nat → Int) (b : Int) : Nat → Option Nat
  | 0 => none
  | k + 1 => if z (k * 2) = b then some k else lastB z b k
theorem lastB_lt {z : Nat → Int} {b : Int} {m k : Nat} (h : lastB z b m = some k) : k < m ∧ z (k * 2) = b := by
  induction m with
  | zero => cases h
  | succ m ih =>
    simp only [lastB] at h
    split at h
    · rename_i hc; cases h; exact ⟨by omega, hc⟩
    · have := ih h; exact ⟨by omega, this.2⟩
theorem lastB_hit {z : Nat → Int} {b : Int} {m k : Nat} (hk : k < m) (h : z (k * 2) = b) (ho : ∀ j, k < j → j < m → z (j * 2) ≠ b) : lastB z b m = some k := by
  induction m with
  | zero => omega
  | succ m ih =>
    simp only [lastB]
    by_cases e : k = m
    · subst e; rw [if_pos h]
    · rw [if_neg (ho m (by omega) (by omega))]; exact ih (by omega) (fun j h1 h2 => ho j h1 (by omega))
theorem lastB_none {z : Nat → Int} {b : Int} {m : Nat} (ho : ∀ j, j < m → z (j * 2) ≠ b) : lastB z b m = none := by
  induction m with
  | zero => rfl
  | succ m ih => simp only [lastB]; rw [if_neg (ho m (by omega))]; exact ih (fun j h => ho j (by omega))

/-- What is known of all letters ahead, behind one more. -/
def sStep (last : Int) (st : List Int) (r : Int) : Int × List Int :=
  if scr r ≠ 0 then (scr r, st)
  else if r < mate r then (last, st ++ [r, last])
  else if mate r ≠ 0 then
    match lastB (fn st) (mate r) (st.length / 2) with
    | some k => (fn st (k * 2 + 1), st.take (k * 2))
    | none => (last, st)
  else (last, st)
def sAt (z : Nat → Int) (f : Int) : Nat → Int × List Int
  | 0 => (f, [])
  | k + 1 => sStep (sAt z f k).1 (sAt z f k).2 (z k)
def scrOut (z : Nat → Int) (f : Int) : Nat → List Int
  | 0 => []
  | k + 1 => scrOut z f k ++ [(sAt z f (k + 1)).1]
theorem scrOut_len (z : Nat → Int) (f : Int) (k : Nat) : (scrOut z f k).length = k := by
  induction k with
  | zero => rfl
  | succ k ih => simp [scrOut, ih]
/-- The first script from the letter n - d on. -/
def firstS (z : Nat → Int) (n : Nat) : Nat → Int
  | 0 => 0
  | d + 1 => if scr (z (n - (d + 1))) ≠ 0 then scr (z (n - (d + 1))) else firstS z n d
theorem firstS_yes {z : Nat → Int} {n k : Nat} (hk : k < n) (h : scr (z k) ≠ 0) : firstS z n (n - k) = scr (z k) := by
  obtain ⟨d, hd⟩ : ∃ d, n - k = d + 1 := ⟨n - k - 1, by omega⟩
  rw [hd]
  simp only [firstS]
  rw [show n - (d + 1) = k by omega, if_pos h]
theorem firstS_no {z : Nat → Int} {n k : Nat} (hk : k < n) (h : scr (z k) = 0) : firstS z n (n - k) = firstS z n (n - (k + 1)) := by
  obtain ⟨d, hd⟩ : ∃ d, n - k = d + 1 := ⟨n - k - 1, by omega⟩
  rw [hd]
  simp only [firstS]
  rw [show n - (d + 1) = k by omega, if_neg (by simp [h]), show n - (k + 1) = d by omega]
def scripts (l : List Int) : List Int := if okF (fn l) l.length = true then scrOut (fn l) (firstS (fn l) l.length l.length) l.length else []
theorem scripts_ok {l : List Int} (h : okF (fn l) l.length = true) : scripts l = scrOut (fn l) (firstS (fn l) l.length l.length) l.length := by simp [scripts, h]
theorem scripts_bad {l : List Int} (h : okF (fn l) l.length = false) : scripts l = [] := by simp [scripts, h]
theorem scripts_len (l : List Int) : (scripts l).length ≤ 80 := by
  unfold scripts
  split
  · rename_i h; rw [scrOut_len]; exact okF_len h
  · simp

theorem sStep_scr {last : Int} {st : List Int} {r : Int} (h : scr r ≠ 0) : sStep last st r = (scr r, st) := by simp [sStep, h]
theorem sStep_open {last : Int} {st : List Int} {r : Int} (h : scr r = 0) (h2 : r < mate r) : sStep last st r = (last, st ++ [r, last]) := by simp [sStep, h, h2]
theorem sStep_none {last : Int} {st : List Int} {r : Int} (h : scr r = 0) (h2 : ¬ r < mate r) (h3 : mate r = 0) : sStep last st r = (last, st) := by
  unfold sStep
  rw [if_neg (by simp [h]), if_neg h2, if_neg (by simp [h3])]
theorem sStep_hit {last : Int} {st : List Int} {r : Int} {k m : Nat} (h : scr r = 0) (h2 : ¬ r < mate r) (h3 : mate r ≠ 0) (hm : st.length = m * 2) (h4 : lastB (fn st) (mate r) m = some k) : sStep last st r = (fn st (k * 2 + 1), st.take (k * 2)) := by
  have : st.length / 2 = m := by omega
  simp [sStep, h, h2, h3, this, h4]
theorem sStep_miss {last : Int} {st : List Int} {r : Int} {m : Nat} (h : scr r = 0) (h2 : ¬ r < mate r) (h3 : mate r ≠ 0) (hm : st.length = m * 2) (h4 : lastB (fn st) (mate r) m = none) : sStep last st r = (last, st) := by
  have : st.length / 2 = m := by omega
  simp [sStep, h, h2, h3, this, h4]

/-- Letters that have a mate. -/
theorem mate_cases (r : Int) : (mate r = 0 ∧ r ≠ 40 ∧ r ≠ 41 ∧ r ≠ 91 ∧ r ≠ 93 ∧ r ≠ 123 ∧ r ≠ 125) ∨ (r = 40 ∧ mate r = 41) ∨ (r = 41 ∧ mate r = 40) ∨ (r = 91 ∧ mate r = 93) ∨ (r = 93 ∧ mate r = 91) ∨ (r = 123 ∧ mate r = 125) ∨ (r = 125 ∧ mate r = 123) := by
  unfold mate
  (repeat' split) <;> omega
theorem mate_scr {r : Int} (h : mate r ≠ 0) : scr r = 0 := by
  have := mate_cases r
  unfold scr
  (repeat' split) <;> omega
theorem mate_flip {b r : Int} (hb : b < mate b) (hr : mate r < r) : mate b = r ↔ b = mate r := by
  have h1 := mate_cases b
  have h2 := mate_cases r
  omega
/-- The brackets that are open. -/
def OpenOk (z : Nat → Int) (m : Nat) : Prop := ∀ k, k < m → z (k * 2) < mate (z (k * 2)) ∧ z (k * 2) ≠ 0
theorem sAt_ok (z : Nat → Int) (f : Int) (k : Nat) : ∃ m, (sAt z f k).2.length = m * 2 ∧ m ≤ k ∧ OpenOk (fn (sAt z f k).2) m := by
  induction k with
  | zero => exact ⟨0, rfl, Nat.le_refl _, fun j hj => by omega⟩
  | succ k ih =>
    obtain ⟨m, h1, h2, h3⟩ := ih
    simp only [sAt]
    by_cases a : scr (z k) = 0
    · by_cases b : z k < mate (z k)
      · rw [sStep_open a b]
        refine ⟨m + 1, by simp [h1]; omega, by omega, fun j hj => ?_⟩
        by_cases e : j = m
        · subst e
          have : fn ((sAt z f k).2 ++ [z k, (sAt z f k).1]) (j * 2) = z k := by simp [fn, List.getD, h1]
          rw [this]
          have := mate_cases (z k)
          exact ⟨b, by omega⟩
        · have : fn ((sAt z f k).2 ++ [z k, (sAt z f k).1]) (j * 2) = fn (sAt z f k).2 (j * 2) := fn_append_left (by omega)
          rw [this]; exact h3 j (by omega)
      · by_cases c : mate (z k) = 0
        · rw [sStep_none a b c]; exact ⟨m, h1, by omega, h3⟩
        · cases d : lastB (fn (sAt z f k).2) (mate (z k)) m with
          | none => rw [sStep_miss a b c h1 d]; exact ⟨m, h1, by omega, h3⟩
          | some i =>
            rw [sStep_hit a b c h1 d]
            have hi := lastB_lt d
            refine ⟨i, by simp; omega, by omega, fun j hj => ?_⟩
            rw [fn_take (by omega)]
            exact h3 j (by omega)
    · rw [sStep_scr a]; exact ⟨m, h1, by omega, h3⟩
end Go.Proofs.Yteefeciiaekdlaa
