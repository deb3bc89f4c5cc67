import Derived.Test.YtobmdefklgkoiaaSpanMark
namespace Go.Proofs.Ytobmdefklgkoiaa
open Go.ChangeShapes Go.WideShapes Go.ChangeAt Go.RowKit
set_option linter.unusedSimpArgs false

set_option maxHeartbeats 2000000 in
theorem heldS_any (v : Value) (n : Nat) (k : Int) (w : World) (hv : ArgS w v n (marks k (n * 4))) (hl : n ≤ 1048576) (hk0 : 0 ≤ k) (hk1 : k ≤ 1000000000000) :
    Calls Try.prog 28 #[v, .int .i64 k] w fun e w' => e = .returned (.int .i64 (k + 4 * (n : Int))) ∧ Below w.heap.size w w' := by
  rcases hv with ⟨a0, c0, rfl, rfl⟩ | ⟨g, cap, rfl, hgw, hlc, hcm, hat⟩
  · go_enter Try.func28, Try.ntmps28
    go_wp2_with fail
    go_rounds 1
    go_ret
    exact ⟨retInt (by simp), Below.refl _ _⟩
  · have HAT : Hid (∀ m, m < n → w.cell? ⟨g, m * 4, none⟩ = some (.int .i64 (k + 4 * (m : Int))) ∧ w.cell? ⟨g, m * 4 + 1, none⟩ = some (.int .i64 (k + 4 * (m : Int) + 1)) ∧ w.cell? ⟨g, m * 4 + 2, none⟩ = some (.int .i64 (k + 4 * (m : Int) + 1 + 1)) ∧ w.cell? ⟨g, m * 4 + 3, none⟩ = some (.int .i64 (k + 4 * (m : Int) + 1 + 1 + 1))) := fun m hm => by
      have e : ∀ j, j < 4 → w.cell? ⟨g, m * 4 + j, none⟩ = some (.int .i64 (k + ((m * 4 + j : Nat) : Int))) := fun j hj => by rw [hat _ (by omega), fn_marks (by omega)]
      refine ⟨?_, ?_, ?_, ?_⟩
      · rw [show k + 4 * (m : Int) = k + ((m * 4 + 0 : Nat) : Int) by omega]; exact e 0 (by omega)
      · rw [show k + 4 * (m : Int) + 1 = k + ((m * 4 + 1 : Nat) : Int) by omega]; exact e 1 (by omega)
      · rw [show k + 4 * (m : Int) + 1 + 1 = k + ((m * 4 + 2 : Nat) : Int) by omega]; exact e 2 (by omega)
      · rw [show k + 4 * (m : Int) + 1 + 1 + 1 = k + ((m * 4 + 3 : Nat) : Int) by omega]; exact e 3 (by omega)
    clear hat
    go_enter Try.func28, Try.ntmps28
    go_wp2_with fail
    go_loopw [1, 5] (fun q i wr => ∃ (m : Nat), m ≤ n ∧ i = .int .i64 m ∧ q = .int .i64 (k + 4 * (m : Int)) ∧ wr = w) (fun _ i _ => n - (intOf i).toNat)
    case atStart => exact ⟨0, Nat.zero_le _, rfl, by go_num, rfl⟩
    case round =>
      obtain ⟨m, hm, rfl, rfl, hw⟩ := hrel
      rw [hw]
      clear hw
      by_cases hlt : m < n
      · obtain ⟨c0, c1, c2, c3⟩ := HAT.out m hlt
        have hmi : (m : Int) < (n : Int) := by omega
        go_wp2_with fail
        exact ⟨⟨m + 1, by omega, by go_num, by go_num, by first | trivial | rfl⟩, by simp only [intOf]; omega⟩
      · have e : m = n := by omega
        subst e
        go_wp2_with fail
        go_ret
        exact ⟨rfl, Below.refl _ _⟩
end Go.Proofs.Ytobmdefklgkoiaa
