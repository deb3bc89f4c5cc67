import Derived.Test.YtanhmphmpobceaaBidi
import Derived.Test.YtanhmphmpobceaaOk
namespace Go.Proofs.Ytanhmphmpobceaa
open Go.ChangeShapes Go.WideShapes Go.ChangeAt Go.RowKit
set_option linter.unusedSimpArgs false

set_option maxHeartbeats 1000000 in
theorem specFlag (r : Int) (w : World) : Calls Try.prog 56 #[.int .i64 r] w fun e w' => e = .returned (.bool (flag r)) ∧ w' = w := by
  go_enter Try.func56, Try.ntmps56
  go_wp2_with (go_at_call 35; refine (specIn _ _ _ _).mono ?_; rintro e w' ⟨rfl, rfl⟩)
  go_ret
  exact ⟨rfl, rfl⟩

theorem joins_ten {z : Nat → Int} {p : Nat} (h : z (p + 1) = 10 ∨ z p = 10) : joins z (p + 1) = decide (z p = 13 ∧ z (p + 1) = 10) := by
  unfold joins; rw [Nat.add_sub_cancel, if_pos h]
theorem joins_mark {z : Nat → Int} {p : Nat} (h : ¬ (z (p + 1) = 10 ∨ z p = 10)) (h2 : bidi (z (p + 1)) = 9 ∨ z (p + 1) = 8205) : joins z (p + 1) = true := by
  unfold joins; rw [Nat.add_sub_cancel, if_neg h, if_pos h2]
theorem joins_flag {z : Nat → Int} {p : Nat} (h : ¬ (z (p + 1) = 10 ∨ z p = 10)) (h2 : ¬ (bidi (z (p + 1)) = 9 ∨ z (p + 1) = 8205)) : joins z (p + 1) = (flag (z (p + 1)) && decide (runOf z (p + 1) % 2 = 1)) := by
  unfold joins; rw [Nat.add_sub_cancel, if_neg h, if_neg h2]
theorem odd_eq (n : Nat) (k : Int) (h : k = (n : Int)) : (k % 2 == 1) = decide (n % 2 = 1) := by
  subst h; rw [Bool.eq_iff_iff]; simp; omega
theorem runOf_yes {z : Nat → Int} {k : Nat} (h : flag (z k) = true) : runOf z (k + 1) = runOf z k + 1 := by simp [runOf, h]
theorem runOf_no {z : Nat → Int} {k : Nat} (h : flag (z k) = false) : runOf z (k + 1) = 0 := by simp [runOf, h]

set_option maxHeartbeats 4000000 in
theorem specJoins (b off cap n : Nat) (l : List Int) (a : Int) (p : Nat) (w : World) (hn : l.length = n) (hb : b < w.heap.size) (hat : At w b off l) (hl : n ≤ 4194304) (ha : a = (p : Int) + 1) (hp : p + 1 < n) :
    Calls Try.prog 53 #[.slice (some ⟨b, off, none⟩) n cap, .int .i64 a] w fun e w' => e = .returned (.bool (joins (fn l) (p + 1))) ∧ Below w.heap.size w w' := by
  subst ha
  have c1 : w.cell? ⟨b, off + (p + 1), none⟩ = some (.int .i64 (fn l (p + 1))) := hat _ (by omega)
  have c0 : w.cell? ⟨b, off + p, none⟩ = some (.int .i64 (fn l p)) := hat _ (by omega)
  have b1 : (0 : Int) ≤ (p : Int) + 1 := by omega
  have b2 : (p : Int) + 1 < (n : Int) := by omega
  by_cases h10 : fn l (p + 1) = 10 ∨ fn l p = 10
  · have hj := joins_ten h10
    have HJ : Hid _ := hj
    clear hj
    by_cases g1 : fn l (p + 1) = 10
    · have g1b : (fn l (p + 1) == 10) = true := by simpa using g1
      have G1 : Hid _ := g1
      clear g1 h10
      go_enter Try.func53, Try.ntmps53
      go_wp2_with fail
      all_goals (go_ret; refine ⟨retBool ?_, Below.refl _ _⟩)
      all_goals (rw [HJ.out]; have := G1.out; simp [*])
    · have g1b : (fn l (p + 1) == 10) = false := by simpa using g1
      have g0 : fn l p = 10 := by omega
      have g0b : (fn l p == 10) = true := by simpa using g0
      have g0c : (fn l p == 13) = false := by rw [g0]; decide
      have G0 : Hid _ := g0
      clear g0 h10
      go_enter Try.func53, Try.ntmps53
      go_wp2_with fail
      all_goals (go_ret; refine ⟨retBool ?_, Below.refl _ _⟩)
      all_goals (rw [HJ.out]; have := G0.out; simp [*])
  · have g1 : ¬ fn l (p + 1) = 10 := by omega
    have g0 : ¬ fn l p = 10 := by omega
    have g1b : (fn l (p + 1) == 10) = false := by simpa using g1
    have g0b : (fn l p == 10) = false := by simpa using g0
    by_cases h2 : bidi (fn l (p + 1)) = 9 ∨ fn l (p + 1) = 8205
    · have HJ : Hid _ := joins_mark h10 h2
      have h2' : (bidi (fn l (p + 1)) == 9 || fn l (p + 1) == 8205) = true := by simpa using h2
      have H2 : Hid _ := h2
      clear h2 h10 g1 g0
      by_cases g2 : bidi (fn l (p + 1)) = 9
      · have g2b : (bidi (fn l (p + 1)) == 9) = true := by simpa using g2
        clear g2
        go_enter Try.func53, Try.ntmps53
        go_wp2_with (go_at_call 48; refine (specBidi _ _).mono ?_; rintro e w' ⟨rfl, hw⟩)
        go_ret
        exact ⟨retBool HJ.out.symm, hw⟩
      · have g2b : (bidi (fn l (p + 1)) == 9) = false := by simpa using g2
        have g3b : (fn l (p + 1) == 8205) = true := by have := H2.out; simp; omega
        clear g2
        go_enter Try.func53, Try.ntmps53
        go_wp2_with (go_at_call 48; refine (specBidi _ _).mono ?_; rintro e w' ⟨rfl, hw⟩)
        go_ret
        exact ⟨retBool HJ.out.symm, hw⟩
    · have HJ : Hid _ := joins_flag h10 h2
      have g2b : (bidi (fn l (p + 1)) == 9) = false := by simp; omega
      have g3b : (fn l (p + 1) == 8205) = false := by simp; omega
      clear h2 h10 g1 g0
      go_enter Try.func53, Try.ntmps53
      go_wp2_with (go_at_call 48; refine (specBidi _ _).mono ?_; rintro e w' ⟨rfl, hw⟩)
      go_loop [6, 7] (fun q k => ∃ m : Nat, m ≤ p + 1 ∧ k = .int .i64 ((m : Int) - 1) ∧ q = .int .i64 ((p : Int) + 1 - (m : Int)) ∧ Hid (runOf (fn l) (p + 1) = p + 1 - m + runOf (fn l) m)) (fun _ k => (intOf k + 1).toNat)
      case atStart => exact ⟨p + 1, Nat.le_refl _, by go_num, by go_num, show runOf (fn l) (p + 1) = _ by omega⟩
      case round =>
        obtain ⟨m, hm, rfl, rfl, hrun⟩ := hrel
        by_cases hm0 : m = 0
        · subst hm0
          go_wp2_with (go_at_call 56; refine (specFlag _ _).mono ?_; rintro e w' ⟨rfl, rfl⟩)
          all_goals (go_ret; refine ⟨retBool ?_, hw⟩; rw [HJ.out])
          all_goals (have h := hrun.out; rw [show runOf (fn l) 0 = 0 from rfl] at h; rw [h])
          all_goals (simp [*]; try exact odd_eq _ _ (by omega))
        · obtain ⟨q, rfl⟩ : ∃ q, m = q + 1 := ⟨m - 1, by omega⟩
          have cq : w'.cell? ⟨b, off + q, none⟩ = some (.int .i64 (fn l q)) := (hw.cell (p := ⟨b, off + q, none⟩) hb).trans (hat _ (by omega))
          by_cases hf : flag (fn l q) = true
          · go_wp2_with (go_at_call 56; refine (specFlag _ _).mono ?_; rintro e w' ⟨rfl, rfl⟩)
            go_round
            case rel => exact ⟨q, by omega, by go_num, by go_num, show runOf (fn l) (p + 1) = _ by have := hrun.out; rw [runOf_yes hf] at this; omega⟩
            case measure => simp only [intOf]; omega
          · have hf2 : flag (fn l q) = false := by simpa using hf
            clear hf
            go_wp2_with (go_at_call 56; refine (specFlag _ _).mono ?_; rintro e w' ⟨rfl, rfl⟩)
            all_goals (go_ret; refine ⟨retBool ?_, hw⟩; rw [HJ.out])
            all_goals (have h := hrun.out; rw [runOf_no hf2] at h; rw [h])
            all_goals (simp [*]; try exact odd_eq _ _ (by omega))
end Go.Proofs.Ytanhmphmpobceaa
