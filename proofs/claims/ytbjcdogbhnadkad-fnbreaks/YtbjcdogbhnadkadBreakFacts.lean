import Derived.Test.YtbjcdogbhnadkadBreakTop
import Derived.Test.YtbjcdogbhnadkadDraw4
import Derived.Test.YtbjcdogbhnadkadBytesRow
import Derived.Test.YtbjcdogbhnadkadWc
namespace Go.Proofs.Ytbjcdogbhnadkad
open Go.ChangeShapes Go.WideShapes Go.ChangeAt Go.RowKit
set_option linter.unusedSimpArgs false

theorem ctd_plain {z : Nat → Int} {k : Nat} (h : lineI (z k) ≠ 7) : ctd z k = lineI (z k) := by rw [ctd_ah, if_neg h]
theorem line3 {r : Int} (h : lineI r = 3) : r = 32 := by
  by_cases e : r = 32
  · exact e
  · exfalso
    unfold lineI lineR at h
    repeat' split at h
    all_goals omega
theorem line_nsm {r : Int} (h : bidi r = 9) : lineI r = 7 := by
  have h2 := (bidi_nsm r).1 h
  rw [line_same, h]
  unfold lineS
  repeat (first | rfl | rw [if_pos (by omega)] | rw [if_neg (by omega)])
theorem brk_word {z : Nat → Int} {n k : Nat} (hk : k + 1 < n) (hc : lineI (z k) = 1 ∨ lineI (z k) = 2) (hd : lineI (z (k + 1)) = 1 ∨ lineI (z (k + 1)) = 2) : brkAt z n k = 0 := by
  unfold brkAt
  rw [if_neg (by omega)]
  by_cases j : joins z (k + 1) = true
  · rw [if_pos (.inl j)]
  · rw [if_neg (by rintro (h | h); exact j h; omega), place_is, ctd_plain (by omega), ctd_plain (by omega)]
    have hs : solC z (k + 1) = lineI (z k) := by simp only [solC]; rw [ctd_plain (by omega), if_neg (by omega)]
    rw [hs]
    rcases hc with e | e <;> rcases hd with f | f <;> rw [e, f] <;> decide
theorem brk_blank {z : Nat → Int} {n p : Nat} (hk : p + 1 + 1 < n) (hc : lineI (z (p + 1)) = 3) (hd : lineI (z (p + 1 + 1)) = 1 ∨ lineI (z (p + 1 + 1)) = 2) (he : lineI (z p) = 1 ∨ lineI (z p) = 2) : brkAt z n (p + 1) = 1 := by
  have hz := line3 hc
  have hj : joins z (p + 1 + 1) = false := by
    unfold joins
    have n10 : z (p + 1 + 1) ≠ 10 := fun e => by rw [e] at hd; revert hd; decide
    rw [Nat.add_sub_cancel, if_neg (by rintro (h | h); exact n10 h; omega), if_neg]
    · have hr : runOf z (p + 1 + 1) = 0 := by simp only [runOf]; rw [hz]; rfl
      rw [hr]; simp
    · rintro (h | h)
      · have := line_nsm h; omega
      · rw [h] at hd; revert hd; decide
  unfold brkAt
  rw [if_neg (by omega), if_neg (by rintro (h | h); rw [hj] at h; cases h; omega), place_is, ctd_plain (by omega), ctd_plain (by omega)]
  have hs : solC z (p + 1 + 1) = lineI (z p) := by
    simp only [solC]; rw [ctd_plain (k := p + 1) (by omega), if_pos hc, ctd_plain (by omega), if_neg (by omega)]
  rw [hs, hc]
  rcases hd with f | f <;> rcases he with g | g <;> rw [f, g] <;> decide

set_option maxHeartbeats 1000000 in
theorem drawBreaks (a : Option Addr) (len cap : Nat) (w : World) (h : Bytes w a len cap) :
    Calls Try.prog 7 #[.slice a len cap] w fun e w' => (∃ v l, e = .returned v ∧ OwnI w' w.heap.size v l ∧ l.length ≤ 81) ∧ Below w.heap.size w w' := by
  go_enter Try.func7, Try.ntmps7
  go_wp2_with fail
  refine (open_any a len cap w h).mono ?_
  rintro e w1 ⟨rfl, hr, hb⟩
  have hl1 := hr.lt
  go_wp2_with fail
  refine (any_any _ 0 _ hr (by omega)).mono ?_
  rintro e w2 ⟨⟨v, l, rfl, ho, hl⟩, p, hp, hW⟩
  go_wp2_with fail
  go_ret
  exact ⟨⟨_, l, rfl, ho.mono (Nat.le_of_lt hl1), hl⟩, hb.trans (hW.below (Nat.le_refl _) hl1)⟩

end Go.Proofs.Ytbjcdogbhnadkad
