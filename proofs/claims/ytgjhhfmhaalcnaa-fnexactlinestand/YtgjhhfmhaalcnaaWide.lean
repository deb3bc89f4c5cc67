import Derived.Test.YtgjhhfmhaalcnaaBidiImpl
namespace Go.Proofs.Ytgjhhfmhaalcnaa
open Go.ChangeShapes Go.WideShapes Go.ChangeAt Go.RowKit
set_option linter.unusedSimpArgs false

def wideOf (c r : Int) : Int :=
  if c = 9 ∨ c = 10 ∨ 14 ≤ c ∨ r = 10 ∨ r = 13 then 0 else
  if r = 105 ∨ r = 106 ∨ r = 108 ∨ r = 102 ∨ r = 116 then 6 else if r = 109 ∨ r = 119 then 16 else
  if 19968 ≤ r ∧ r ≤ 40959 then 20 else if c = 2 ∨ c = 3 then 12 else if c = 11 then 40 else
  if c = 12 ∨ c = 8 then 6 else 10

def hasF (z : Nat → Int) (len : Nat) (n : Int) : Bool := (List.range len).any fun j => z j == n
theorem hasF_true {z : Nat → Int} {len k : Nat} {n : Int} (hk : k < len) (h : z k = n) : hasF z len n = true := by
  simp only [hasF, List.any_eq_true, List.mem_range, beq_iff_eq]; exact ⟨k, hk, h⟩
theorem hasF_false {z : Nat → Int} {len : Nat} {n : Int} (h : ∀ j, j < len → z j ≠ n) : hasF z len n = false := by
  simp only [hasF, List.any_eq_false, List.mem_range, beq_iff_eq]; exact h

set_option maxHeartbeats 1000000 in
theorem specHas (b off len cap : Nat) (z : Nat → Int) (n : Int) (w : World) (hbig : len ≤ 1000000) (hc : Hid (∀ j, j < len → w.cell? ⟨b, off + j, none⟩ = some (.int .i64 (z j)))) :
    Calls Try.prog 132 #[.slice (some ⟨b, off, none⟩) len cap, .int .i64 n] w fun e w' => e = .returned (.bool (hasF z len n)) ∧ w' = w := by
  go_enter Try.func132, Try.ntmps132
  go_wp2
  go_loop [5] (fun i => ∃ k : Nat, k ≤ len ∧ i = .int .i64 k ∧ Hid (∀ j, j < k → z j ≠ n)) (fun i => len - (intOf i).toNat)
  case atStart => exact ⟨0, Nat.zero_le _, rfl, fun j hj => by omega⟩
  case round =>
    obtain ⟨k, hk, rfl, hb⟩ := hrel
    by_cases hlt : k < len
    · have hcell : w.cell? ⟨b, off + k, none⟩ = some (.int .i64 (z k)) := hc.out _ (by omega)
      by_cases hq : z k = n
      · have hq2 : (z k == n) = true := by simpa using hq
        have HQ : Hid _ := hq
        clear hq
        go_wp2
        go_ret
        exact ⟨ret_bool (hasF_true hlt HQ.out).symm, rfl⟩
      · have hq2 : (z k == n) = false := by simpa using hq
        go_wp2
        go_round
        case rel =>
          refine ⟨k + 1, by omega, by go_num, fun j hj => ?_⟩
          by_cases e : j = k
          · subst e; exact hq
          · exact hb.out j (by omega)
        case measure => simp only [intOf]; omega
    · have e : k = len := by omega
      subst e
      go_wp2
      go_ret
      exact ⟨ret_bool (hasF_false hb.out).symm, rfl⟩

set_option maxHeartbeats 2000000 in
theorem implWide' (r c : Int) (hc : Hid (bidi r = c)) (w : World) : Calls Try.prog 108 #[.int .i64 r] w fun e w' => e = .returned (.int .i64 (wideOf c r)) ∧ Below w.heap.size w w' := by
  go_enter Try.func108, Try.ntmps108
  go_wp2_with fail
  refine (implBidi _ _).mono ?_
  rintro e w' ⟨rfl, hw⟩
  rw [hc.out]
  go_wp2_with fail
  all_goals (go_ret; refine ⟨ret_int ?_, hw⟩)
  all_goals (try simp only [beq_iff_eq, beq_eq_false_iff_ne, ne_eq, inB, decide_eq_true_eq, decide_eq_false_iff_not] at *)
  all_goals (unfold wideOf)
  all_goals (repeat (first | rfl | rw [if_pos (by omega)] | rw [if_neg (by omega)]))

theorem implWide (r : Int) (w : World) : Calls Try.prog 108 #[.int .i64 r] w fun e w' => e = .returned (.int .i64 (wideOf (bidi r) r)) ∧ Below w.heap.size w w' :=
  implWide' r _ rfl w

end Go.Proofs.Ytgjhhfmhaalcnaa
