import Derived.Test.YtgojdlbidjnmmaaGreatClusMath
import Derived.Test.YtgojdlbidjnmmaaGreatMem
namespace Go.Proofs.YtgojdlbidjnmmaaGreat
open Go.ChangeShapes Go.WideShapes Go.ChangeAt Go.RowKit
set_option linter.unusedSimpArgs false

def sizeF (r : Int) : Int :=
  if 0 ≤ r ∧ r ≤ 127 then 1 else if 128 ≤ r ∧ r ≤ 2047 then 2 else if 55296 ≤ r ∧ r ≤ 57343 then 0 else if 2048 ≤ r ∧ r ≤ 65535 then 3 else if 65536 ≤ r ∧ r ≤ 1114111 then 4 else 0
theorem sizeF_zero (r : Int) : sizeF r = 0 ↔ letter r = false := by
  unfold sizeF letter
  rw [decide_eq_false_iff_not]
  by_cases h1 : 0 ≤ r ∧ r ≤ 127
  · rw [if_pos h1]; omega
  · by_cases h2 : 128 ≤ r ∧ r ≤ 2047
    · rw [if_neg h1, if_pos h2]; omega
    · by_cases h3 : 55296 ≤ r ∧ r ≤ 57343
      · rw [if_neg h1, if_neg h2, if_pos h3]; omega
      · by_cases h4 : 2048 ≤ r ∧ r ≤ 65535
        · rw [if_neg h1, if_neg h2, if_neg h3, if_pos h4]; omega
        · by_cases h5 : 65536 ≤ r ∧ r ≤ 1114111
          · rw [if_neg h1, if_neg h2, if_neg h3, if_neg h4, if_pos h5]; omega
          · rw [if_neg h1, if_neg h2, if_neg h3, if_neg h4, if_neg h5]; omega

set_option maxHeartbeats 1000000 in
theorem specSize (r : Int) (w : World) : Calls Tryz.prog 80 #[.int .i64 r] w fun e w' => e = .returned (.int .i64 (sizeF r)) ∧ w' = w := by
  go_enter Tryz.func80, Tryz.ntmps80
  go_wp2_with (go_at_call 29; refine (specIn _ _ _ _).mono ?_; rintro e w' ⟨rfl, rfl⟩)
  all_goals (go_ret; refine ⟨retInt ?_, rfl⟩)
  all_goals (try simp only [beq_iff_eq, beq_eq_false_iff_ne, ne_eq, inB, decide_eq_true_eq, decide_eq_false_iff_not] at *)
  all_goals (unfold sizeF)
  all_goals (repeat (first | rfl | rw [if_pos (by omega)] | rw [if_neg (by omega)]))

theorem okF_all {z : Nat → Int} {n : Nat} (h : ∀ j, j < n → letter (z j) = true) : okF z n = decide (n ≤ 80) := by
  have : allB (fun j => letter (z j)) n = true := (allB_iff _ _).2 h
  simp [okF, this]
theorem okF_no {z : Nat → Int} {n k : Nat} (hk : k < n) (h : letter (z k) = false) : okF z n = false := by
  simp [okF, allB_false (p := fun j => letter (z j)) hk h]
theorem okF_long {z : Nat → Int} {n : Nat} (h : 80 < n) : okF z n = false := by
  simp [okF]; omega
theorem okF_len {z : Nat → Int} {n : Nat} (h : okF z n = true) : n ≤ 80 := by
  simp [okF] at h; omega
theorem okF_get {z : Nat → Int} {n : Nat} (h : okF z n = true) {j : Nat} (hj : j < n) : letter (z j) = true := by
  simp only [okF, Bool.and_eq_true] at h; exact (allB_iff _ _).1 h.2 j hj
theorem letter_bounds {r : Int} (h : letter r = true) : 0 ≤ r ∧ r ≤ 1114111 := by
  simp [letter] at h; omega

set_option maxHeartbeats 1000000 in
theorem specOk (v : Value) (l : List Int) (w : World) (hv : Arg w v l) (hl : l.length ≤ 4194304) :
    Calls Tryz.prog 70 #[v] w fun e w' => e = .returned (.bool (okF (fn l) l.length)) ∧ w' = w := by
  rcases hv with ⟨a0, c0, rfl, rfl⟩ | ⟨b, off, cap, rfl, hb, hlc, hcm, hat⟩
  · go_enter Tryz.func70, Tryz.ntmps70
    go_wp2
    go_rounds 1
    go_ret
    exact ⟨rfl, rfl⟩
  · obtain ⟨n, hn⟩ : ∃ n, l.length = n := ⟨_, rfl⟩
    rw [hn] at hl ⊢
    go_enter Tryz.func70, Tryz.ntmps70
    go_wp2
    go_loop [3] (fun i => ∃ k : Nat, k ≤ n ∧ i = .int .i64 k ∧ Hid (∀ j, j < k → letter (fn l j) = true)) (fun i => n - (intOf i).toNat)
    case atStart => exact ⟨0, Nat.zero_le _, rfl, fun j hj => by omega⟩
    case round =>
      obtain ⟨k, hk, rfl, hok⟩ := hrel
      by_cases hlt : k < n
      · have hcell : w.cell? ⟨b, off + k, none⟩ = some (.int .i64 (fn l k)) := hat k (by omega)
        by_cases hq : letter (fn l k) = true
        · have hs : (sizeF (fn l k) == 0) = false := by
            rw [beq_eq_false_iff_ne]; intro h; rw [sizeF_zero, hq] at h; cases h
          go_wp2_with (go_at_call 80; refine (specSize _ _).mono ?_; rintro e w' ⟨rfl, rfl⟩)
          go_round
          case rel =>
            refine ⟨k + 1, by omega, by go_num, fun j hj => ?_⟩
            by_cases ej : j = k
            · subst ej; exact hq
            · exact hok.out j (by omega)
          case measure => simp only [intOf]; omega
        · have hs : (sizeF (fn l k) == 0) = true := by
            rw [beq_iff_eq, sizeF_zero]; simpa using hq
          go_wp2_with (go_at_call 80; refine (specSize _ _).mono ?_; rintro e w' ⟨rfl, rfl⟩)
          go_ret
          exact ⟨retBool (okF_no hlt (by simpa using hq)).symm, rfl⟩
      · have e : k = n := by omega
        subst e
        go_wp2
        go_ret
        refine ⟨retBool ?_, rfl⟩
        rw [okF_all hok.out]
        first | rfl | (congr 1; simp; omega)

set_option maxHeartbeats 1000000 in
theorem implOk (v : Value) (l : List Int) (w : World) (hv : Arg w v l) (hl : l.length ≤ 4194304) :
    Calls Tryz.prog 56 #[v] w fun e w' => e = .returned (.bool (okF (fn l) l.length)) ∧ w' = w := by
  rcases hv with ⟨a0, c0, rfl, rfl⟩ | ⟨b, off, cap, rfl, hb, hlc, hcm, hat⟩
  · go_enter Tryz.func56, Tryz.ntmps56
    go_wp2
    go_rounds 1
    go_ret
    exact ⟨rfl, rfl⟩
  · obtain ⟨n, hn⟩ : ∃ n, l.length = n := ⟨_, rfl⟩
    rw [hn] at hl ⊢
    by_cases h80 : 80 < n
    · go_enter Tryz.func56, Tryz.ntmps56
      go_wp2
      go_ret
      exact ⟨retBool (okF_long h80).symm, rfl⟩
    · go_enter Tryz.func56, Tryz.ntmps56
      go_wp2
      go_loop [10] (fun i => ∃ k : Nat, k ≤ n ∧ i = .int .i64 k ∧ Hid (∀ j, j < k → letter (fn l j) = true)) (fun i => n - (intOf i).toNat)
      case atStart => exact ⟨0, Nat.zero_le _, rfl, fun j hj => by omega⟩
      case round =>
        obtain ⟨k, hk, rfl, hok⟩ := hrel
        by_cases hlt : k < n
        · have hcell : w.cell? ⟨b, off + k, none⟩ = some (.int .i64 (fn l k)) := hat k (by omega)
          go_wp2
          all_goals first
            | (go_ret; exact ⟨retBool (okF_no hlt (by simp only [letter, decide_eq_false_iff_not]; omega)).symm, rfl⟩)
            | (refine ⟨⟨k + 1, by omega, by go_num, fun j hj => ?_⟩, by simp only [intOf]; omega⟩
               by_cases ej : j = k
               · subst ej; simp only [letter, decide_eq_true_eq]; omega
               · exact hok.out j (by omega))
        · have e : k = n := by omega
          subst e
          go_wp2
          go_ret
          refine ⟨retBool ?_, rfl⟩
          rw [okF_all hok.out]
          simp; omega
end Go.Proofs.YtgojdlbidjnmmaaGreat
