import Derived.Test.YtgojdlbidjnmmaaGreatBidiD
namespace Go.Proofs.YtgojdlbidjnmmaaGreat
set_option linter.unusedSimpArgs false

theorem bidi_nsm (r : Int) : bidi r = 9 ↔ (768 ≤ r ∧ r ≤ 879) := by
  unfold bidi signs moves; repeat' split
  all_goals omega
theorem bidi_hi (r : Int) : 14 ≤ bidi r ↔ ((8234 ≤ r ∧ r ≤ 8238) ∨ (8294 ≤ r ∧ r ≤ 8297)) := by
  unfold bidi signs moves; repeat' split
  all_goals omega
theorem bidi_en (r : Int) : bidi r = 4 ↔ (48 ≤ r ∧ r ≤ 57) := by
  unfold bidi signs moves; repeat' split
  all_goals omega
theorem bidi_an (r : Int) : bidi r = 7 ↔ (1632 ≤ r ∧ r ≤ 1641) := by
  unfold bidi signs moves; repeat' split
  all_goals omega
theorem bidi_rng (r : Int) : 1 ≤ bidi r ∧ bidi r ≤ 22 := by
  unfold bidi signs moves; repeat' split
  all_goals omega

/-- The class of a letter by its range, its class by side being known. -/
def lineR (c r : Int) : Int :=
  if 19968 ≤ r ∧ r ≤ 40959 then 15 else if c = 9 ∨ 14 ≤ c then 7 else if c = 4 ∨ c = 7 then 2 else 1
def lineI (r : Int) : Int :=
  if r = 10 then 4 else if r = 32 then 3 else if r = 160 then 5 else if r = 8203 then 6 else if r = 8205 then 7 else
  if r = 40 ∨ r = 91 ∨ r = 123 then 8 else if r = 41 ∨ r = 93 ∨ r = 125 then 9 else if r = 33 ∨ r = 63 then 10 else
  if r = 34 then 11 else if r = 45 then 12 else if r = 44 ∨ r = 46 ∨ r = 58 ∨ r = 59 ∨ r = 47 then 13 else
  if r = 9 ∨ r = 173 then 14 else lineR (bidi r) r
def lineG (r : Int) : Int :=
  if r = 40 ∨ r = 91 ∨ r = 123 then 8 else if r = 41 ∨ r = 93 ∨ r = 125 then 9 else if r = 33 ∨ r = 63 then 10 else
  if r = 34 then 11 else if r = 45 then 12 else if r = 44 ∨ r = 46 ∨ r = 58 ∨ r = 59 ∨ r = 47 then 13 else
  if r = 9 ∨ r = 173 then 14 else 1
def lineS (c r : Int) : Int :=
  if r = 10 then 4 else if r = 32 then 3 else if r = 160 then 5 else if r = 8203 then 6 else
  if c = 9 ∨ r = 8205 ∨ 14 ≤ c then 7 else if (48 ≤ r ∧ r ≤ 57) ∨ (1632 ≤ r ∧ r ≤ 1641) then 2 else if 19968 ≤ r ∧ r ≤ 40959 then 15 else lineG r

theorem line_same (r : Int) : lineI r = lineS (bidi r) r := by
  have h1 := bidi_nsm r
  have h2 := bidi_hi r
  have h3 := bidi_en r
  have h4 := bidi_an r
  unfold lineI lineR lineS
  simp only [h1, h2, h3, h4]
  clear h1 h2 h3 h4
  by_cases a : r = 10 ∨ r = 32 ∨ r = 160 ∨ r = 8203 ∨ r = 8205
  · rcases a with rfl | rfl | rfl | rfl | rfl <;> simp
  · by_cases b : r = 40 ∨ r = 91 ∨ r = 123 ∨ r = 41 ∨ r = 93 ∨ r = 125 ∨ r = 33 ∨ r = 63 ∨ r = 34 ∨ r = 45 ∨ r = 44 ∨ r = 46 ∨ r = 58 ∨ r = 59 ∨ r = 47 ∨ r = 9 ∨ r = 173
    · rcases b with rfl | rfl | rfl | rfl | rfl | rfl | rfl | rfl | rfl | rfl | rfl | rfl | rfl | rfl | rfl | rfl | rfl <;> simp [lineG]
    · have hg : lineG r = 1 := by
        unfold lineG
        repeat (first | rfl | rw [if_neg (by omega)])
      rw [hg]
      repeat' split
      all_goals omega
theorem lineS_rng (r : Int) : 1 ≤ lineS (bidi r) r ∧ lineS (bidi r) r ≤ 15 := by
  unfold lineS lineG
  repeat' split
  all_goals omega
end Go.Proofs.YtgojdlbidjnmmaaGreat
