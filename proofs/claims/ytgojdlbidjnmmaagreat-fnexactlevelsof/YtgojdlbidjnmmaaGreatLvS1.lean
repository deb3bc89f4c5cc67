import Derived.Test.YtgojdlbidjnmmaaGreatLevMath
import Derived.Test.YtgojdlbidjnmmaaGreatRunsS
import Derived.Test.YtgojdlbidjnmmaaGreatPlainFn
import Derived.Test.YtgojdlbidjnmmaaGreatMates
namespace Go.Proofs.YtgojdlbidjnmmaaGreat
open Go.ChangeShapes Go.WideShapes Go.ChangeAt Go.RowKit
set_option linter.unusedSimpArgs false
set_option linter.unusedVariables false

theorem specBefore (b off cap n at_ : Nat) (L : List Int) (base : Int) (w : World) (hn : L.length = n) (hb : b < w.heap.size) (hat : At w b off L) (hn80 : n ≤ 1000) (ha : at_ ≤ n) :
    Calls Tryz.prog 74 #[.slice (some ⟨b, off, none⟩) n cap, .int .i64 (at_ : Int), .int .i64 base] w fun e w' => e = .returned (.int .i64 (befL (fn L) base at_)) ∧ w' = w := by
  have HL : Hid (∀ x, x < n → w.cell? ⟨b, off + x, none⟩ = some (.int .i64 (fn L x))) := fun x hx => hat x (by omega)
  clear hat hn
  go_enter Tryz.func74, Tryz.ntmps74
  go_wp2_with fail
  go_loop [7] (fun z => ∃ k : Nat, z = .int .i64 ((k : Int) - 1) ∧ k ≤ at_ ∧ Hid (befL (fn L) base at_ = befL (fn L) base k)) (fun z => (intOf z + 1).toNat)
  case atStart => exact ⟨at_, by first | rfl | (congr 1), Nat.le_refl _, rfl⟩
  case round =>
    obtain ⟨k, rfl, hk, he⟩ := hrel
    cases k with
    | zero =>
      go_wp2_with fail
      go_ret
      exact ⟨retInt he.out.symm, rfl⟩
    | succ k =>
      rw [show ((k + 1 : Nat) : Int) - 1 = (k : Int) by omega]
      have hkn : (k : Int) < (n : Int) := by omega
      have cx := HL.out k (by omega)
      obtain ⟨y, hy⟩ : ∃ y, fn L k = y := ⟨_, rfl⟩
      rw [hy] at cx
      have he2 : Hid (befL (fn L) base at_ = if 0 ≤ y then y else befL (fn L) base k) := by unfold Hid; rw [he.out]; simp only [befL, hy]
      clear he hy
      by_cases h0 : 0 ≤ y
      · go_wp2_with fail
        go_ret
        exact ⟨retInt (by rw [he2.out, if_pos h0]), rfl⟩
      · go_wp2_with fail
        go_round
        case rel => exact ⟨k, by first | rfl | (congr 1), by omega, by unfold Hid; rw [he2.out, if_neg h0]⟩
        case measure => simp only [intOf]; omega
theorem specEdge (x y : Int) (w : World) (h0 : 0 ≤ x) (h1 : 0 ≤ y) : Calls Tryz.prog 73 #[.int .i64 x, .int .i64 y] w fun e w' => e = .returned (.int .i64 (ownOf (maxI x y))) ∧ w' = w := by
  by_cases h : x < y
  · have hm : maxI x y = y := by unfold maxI; rw [if_pos h]
    rw [hm]
    clear hm
    go_enter Tryz.func73, Tryz.ntmps73
    go_wp2_with (go_at_call 119; refine (specOwn _ _ h1).mono ?_; rintro e w1 ⟨rfl, hw1⟩; rw [hw1]; clear hw1 w1)
    go_ret
    exact ⟨rfl, rfl⟩
  · have hm : maxI x y = x := by unfold maxI; rw [if_neg h]
    rw [hm]
    clear hm
    go_enter Tryz.func73, Tryz.ntmps73
    go_wp2_with (go_at_call 119; refine (specOwn _ _ h0).mono ?_; rintro e w1 ⟨rfl, hw1⟩; rw [hw1]; clear hw1 w1)
    go_ret
    exact ⟨rfl, rfl⟩
theorem specAhead (g n cp at_ : Nat) (x : Nat → Int) (bf : Int) (w : World) (hx : Hid (∀ j, j < n → w.cell? ⟨g, j, none⟩ = some (.int .i64 (x j)))) (hn : n ≤ 1000) (ha : at_ ≤ n) :
    Calls Tryz.prog 128 #[.slice (some ⟨g, 0, none⟩) n cp, .int .i64 (at_ : Int), .int .i64 bf] w fun e w' => e = .returned (.int .i64 (shA x bf at_)) ∧ w' = w := by
  go_enter Tryz.func128, Tryz.ntmps128
  go_wp2_with fail
  go_loop [7] (fun z => ∃ k : Nat, z = .int .i64 ((k : Int) - 1) ∧ k ≤ at_ ∧ Hid (shA x bf at_ = shA x bf k)) (fun z => (intOf z + 1).toNat)
  case atStart => exact ⟨at_, by first | rfl | (congr 1), Nat.le_refl _, rfl⟩
  case round =>
    obtain ⟨k, rfl, hk, he⟩ := hrel
    cases k with
    | zero =>
      go_wp2_with fail
      go_ret
      exact ⟨retInt he.out.symm, rfl⟩
    | succ k =>
      rw [show ((k + 1 : Nat) : Int) - 1 = (k : Int) by omega]
      have hkn : (k : Int) < (n : Int) := by omega
      have cx := hx.out k (by omega)
      obtain ⟨y, hy⟩ : ∃ y, x k = y := ⟨_, rfl⟩
      rw [hy] at cx
      obtain ⟨z, hz⟩ : ∃ z, asB y = z := ⟨_, rfl⟩
      have hlk : like y = if sideB z = true then z else 0 := by
        rw [← hz]; unfold like asB sideB
        by_cases h1 : y = 1
        · simp [h1]
        · by_cases h2 : y = 2
          · simp [h2]
          · by_cases h4 : y = 4 ∨ y = 7
            · rcases h4 with h4 | h4 <;> simp [h4]
            · simp [h1, h2, h4]
      obtain ⟨q, hq⟩ : ∃ q, sideB z = q := ⟨_, rfl⟩
      have HAS : Hid (∀ W, Calls Tryz.prog 130 #[.int .i64 y] W fun e w' => e = .returned (.int .i64 z) ∧ w' = W) := fun W => by rw [← hz]; exact specAs y W
      have HSI : Hid (∀ W, Calls Tryz.prog 131 #[.int .i64 z] W fun e w' => e = .returned (.bool q) ∧ w' = W) := fun W => by rw [← hq]; exact specSide? z W
      rw [hq] at hlk
      have hzr : q = true → z ≠ 0 := fun e => by rw [e] at hq; unfold sideB at hq; have := of_decide_eq_true hq; omega
      have he2 : Hid (shA x bf at_ = if q = true then z else shA x bf k) := by
        unfold Hid; rw [he.out]; simp only [shA, hy, hlk]
        cases q with
        | true => rw [if_pos rfl, if_neg (hzr rfl)]; rfl
        | false => simp
      clear he hy hz hq hlk hzr
      cases q
      · go_wp2_with (first | (go_at_call 130; refine (HAS.out _).mono ?_; rintro e w1 ⟨rfl, hw1⟩; rw [hw1]; clear hw1 w1) | (go_at_call 131; refine (HSI.out _).mono ?_; rintro e w1 ⟨rfl, hw1⟩; rw [hw1]; clear hw1 w1))
        go_round
        case rel => exact ⟨k, by first | rfl | (congr 1), by omega, by unfold Hid; rw [he2.out, if_neg (by simp)]⟩
        case measure => simp only [intOf]; omega
      · go_wp2_with (first | (go_at_call 130; refine (HAS.out _).mono ?_; rintro e w1 ⟨rfl, hw1⟩; rw [hw1]; clear hw1 w1) | (go_at_call 131; refine (HSI.out _).mono ?_; rintro e w1 ⟨rfl, hw1⟩; rw [hw1]; clear hw1 w1))
        go_ret
        exact ⟨retInt (by rw [he2.out]; simp), rfl⟩
end Go.Proofs.YtgojdlbidjnmmaaGreat
