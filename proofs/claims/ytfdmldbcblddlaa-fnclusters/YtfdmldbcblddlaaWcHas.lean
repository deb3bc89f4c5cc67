import Derived.Test.YtfdmldbcblddlaaMem
namespace Go.Proofs.Ytfdmldbcblddlaa
open Go.ChangeShapes Go.WideShapes Go.ChangeAt Go.RowKit
set_option linter.unusedSimpArgs false

def hasG (z : Nat → Int) (len : Nat) (n : Int) : Bool := (List.range len).any fun j => z j == n
theorem hasG_true {z : Nat → Int} {len k : Nat} {n : Int} (hk : k < len) (h : z k = n) : hasG z len n = true := by
  simp only [hasG, List.any_eq_true, List.mem_range, beq_iff_eq]; exact ⟨k, hk, h⟩
theorem hasG_false {z : Nat → Int} {len : Nat} {n : Int} (h : ∀ j, j < len → z j ≠ n) : hasG z len n = false := by
  simp only [hasG, List.any_eq_false, List.mem_range, beq_iff_eq]; exact h

set_option maxHeartbeats 1000000 in
theorem wcHas_row (b off len cap : Nat) (z : Nat → Int) (n : Int) (w : World) (hbig : len ≤ 1000000) (hc : Hid (∀ j, j < len → w.cell? ⟨b, off + j, none⟩ = some (.int .i64 (z j)))) :
    Calls Try.prog 13 #[.slice (some ⟨b, off, none⟩) len cap, .int .i64 n] w fun e w' => e = .returned (.bool (hasG z len n)) ∧ w' = w := by
  go_enter Try.func13, Try.ntmps13
  go_wp2
  go_loop [5] (fun i => ∃ k : Nat, k ≤ len ∧ i = .int .i64 k ∧ Hid (∀ j, j < k → z j ≠ n)) (fun i => len - (intOf i).toNat)
  case atStart => exact ⟨0, Nat.zero_le _, rfl, fun j hj => by omega⟩
  case round =>
    obtain ⟨k, hk, rfl, hb⟩ := hrel
    by_cases hlt : k < len
    · have hcell : w.cell? ⟨b, off + k, none⟩ = some (.int .i64 (z k)) := hc.out _ (by omega)
      by_cases hq : z k = n
      · have hq2 : (z k == n) = true := by simpa using hq
        have HQ : Hid _ := hq
        clear hq
        go_wp2
        go_ret
        exact ⟨retBool (hasG_true hlt HQ.out).symm, rfl⟩
      · have hq2 : (z k == n) = false := by simpa using hq
        go_wp2
        go_round
        case rel =>
          refine ⟨k + 1, by omega, by go_num, fun j hj => ?_⟩
          by_cases e : j = k
          · subst e; exact hq
          · exact hb.out j (by omega)
        case measure => simp only [intOf]; omega
    · have e : k = len := by omega
      subst e
      go_wp2
      go_ret
      exact ⟨retBool (hasG_false hb.out).symm, rfl⟩

end Go.Proofs.Ytfdmldbcblddlaa
