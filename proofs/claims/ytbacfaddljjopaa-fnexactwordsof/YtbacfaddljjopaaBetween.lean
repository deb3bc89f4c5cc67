import Derived.Test.YtbacfaddljjopaaBreakMath
import Derived.Laws.EntriesVeiled
namespace Go.Proofs.Ytbacfaddljjopaa
open Go.ChangeShapes Go.WideShapes Go.ChangeAt Go.RowKit
set_option linter.unusedSimpArgs false

def ruleV (X H N S : Nat) : Nat → Value
  | 0 => .func (Fn.func 109) #[] #[.pointer (some ⟨X, 0, none⟩), .pointer (some ⟨H, 0, none⟩)]
  | 1 => .func (Fn.func 110) #[] #[.pointer (some ⟨X, 0, none⟩), .pointer (some ⟨N, 0, none⟩)]
  | 2 => .func (Fn.func 111) #[] #[.pointer (some ⟨X, 0, none⟩), .pointer (some ⟨S, 0, none⟩)]
  | 3 => .func (Fn.func 112) #[] #[.pointer (some ⟨N, 0, none⟩), .pointer (some ⟨H, 0, none⟩), .pointer (some ⟨X, 0, none⟩)]
  | 4 => .func (Fn.func 113) #[] #[.pointer (some ⟨N, 0, none⟩), .pointer (some ⟨H, 0, none⟩), .pointer (some ⟨S, 0, none⟩), .pointer (some ⟨X, 0, none⟩)]
  | 5 => .func (Fn.func 114) #[] #[.pointer (some ⟨X, 0, none⟩), .pointer (some ⟨S, 0, none⟩)]
  | 6 => .func (Fn.func 115) #[] #[.pointer (some ⟨X, 0, none⟩), .pointer (some ⟨H, 0, none⟩)]
  | 7 => .func (Fn.func 116) #[] #[.pointer (some ⟨X, 0, none⟩), .pointer (some ⟨H, 0, none⟩), .pointer (some ⟨N, 0, none⟩)]
  | _ => .func (Fn.func 117) #[] #[.pointer (some ⟨X, 0, none⟩), .pointer (some ⟨H, 0, none⟩), .pointer (some ⟨N, 0, none⟩)]

set_option maxHeartbeats 2000000 in
theorem rules_any (h n s : Int) (w : World) : Calls Try.prog 98 #[.int .i64 h, .int .i64 n, .int .i64 s] w fun e w' => (∃ G X H N S, e = .returned (.slice (some ⟨G, 0, none⟩) 9 9) ∧ G < w'.heap.size ∧ Env w' X H N S h n s ∧ ∀ k, k < 9 → w'.cell? ⟨G, k, none⟩ = some (ruleV X H N S k)) ∧ Below w.heap.size w w' := by
  go_enter Try.func98, Try.ntmps98
  go_wp2_with fail
  go_ret
  refine ⟨⟨_, w.heap.size + 1 + 1 + 1, w.heap.size, w.heap.size + 1, w.heap.size + 1 + 1, rfl, by simp, ⟨by simp [go_sem], by simp [go_sem], by simp [go_sem], by simp [go_sem], by simp, by simp only [World.size_alloc]; omega, by simp only [World.size_alloc]; omega, by simp only [World.size_alloc]; omega⟩, fun k hk => ?_⟩, by go_grown⟩
  rcases (show k = 0 ∨ k = 1 ∨ k = 2 ∨ k = 3 ∨ k = 4 ∨ k = 5 ∨ k = 6 ∨ k = 7 ∨ k = 8 by omega) with rfl | rfl | rfl | rfl | rfl | rfl | rfl | rfl | rfl <;> simp [ruleV, go_sem]

set_option maxHeartbeats 8000000 in
theorem between_any (h n s : Int) (w : World) : Calls Try.prog 80 #[.int .i64 h, .int .i64 n, .int .i64 s] w fun e w' => e = .returned (.int .i64 (place h n s)) ∧ Below w.heap.size w w' := by
  obtain ⟨R, hR⟩ : ∃ R, place h n s = R := ⟨_, rfl⟩
  have HR : Hid (plA h n s 9 = R) := hR
  rw [hR]
  clear hR
  go_enter Try.func80, Try.ntmps80
  go_wp2_with fail
  refine (rules_any h n s w).mono ?_
  rintro e w1 ⟨⟨G, X, H, N, S, rfl, hG, E1, hc1⟩, b1⟩
  have HC : Hid _ := hc1
  clear hc1
  go_wp2_with fail
  go_loopw [15] (fun i wr => ∃ k : Nat, k ≤ 9 ∧ i = .int .i64 k ∧ Hid (plA h n s (9 - k) = R) ∧ Below w1.heap.size w1 wr) (fun i _ => 9 - (intOf i).toNat)
  case atStart => exact ⟨0, by omega, rfl, HR, Below.refl _ _⟩
  case round =>
    obtain ⟨k, hk, rfl, hp, hbel⟩ := hrel
    have hE := E1.below hbel
    by_cases hlt : k < 9
    · have hcell : wr.cell? ⟨G, k, none⟩ = some (ruleV X H N S k) := (hbel.cell (p := ⟨G, k, none⟩) hG).trans (HC.out k hlt)
      obtain ⟨A, hA⟩ : ∃ A, ans h n s k = A := ⟨_, rfl⟩
      have HA : Hid _ := hA
      by_cases q : A = -1
      · have HQ : Hid (plA h n s (9 - (k + 1)) = R) := by show _ = _; rw [← hp.out]; exact (plA_miss hlt (by rw [hA]; exact q)).symm
        subst q
        clear hA
        rcases (show k = 0 ∨ k = 1 ∨ k = 2 ∨ k = 3 ∨ k = 4 ∨ k = 5 ∨ k = 6 ∨ k = 7 ∨ k = 8 by omega) with rfl | rfl | rfl | rfl | rfl | rfl | rfl | rfl | rfl
        · simp only [ruleV] at hcell
          go_wp2_with fail
          refine (rule0 wr X H N S h n s hE).mono ?_
          rintro e w5 ⟨rfl, b5⟩
          rw [HA.out]
          go_wp2_with fail
          exact ⟨⟨1, by omega, rfl, HQ, bstep hbel b5⟩, by simp only [intOf]; decide⟩
        · simp only [ruleV] at hcell
          go_wp2_with fail
          refine (rule1 wr X H N S h n s hE).mono ?_
          rintro e w5 ⟨rfl, b5⟩
          rw [HA.out]
          go_wp2_with fail
          exact ⟨⟨2, by omega, rfl, HQ, bstep hbel b5⟩, by simp only [intOf]; decide⟩
        · simp only [ruleV] at hcell
          go_wp2_with fail
          refine (rule2 wr X H N S h n s hE).mono ?_
          rintro e w5 ⟨rfl, b5⟩
          rw [HA.out]
          go_wp2_with fail
          exact ⟨⟨3, by omega, rfl, HQ, bstep hbel b5⟩, by simp only [intOf]; decide⟩
        · simp only [ruleV] at hcell
          go_wp2_with fail
          refine (rule3 wr X H N S h n s hE).mono ?_
          rintro e w5 ⟨rfl, b5⟩
          rw [HA.out]
          go_wp2_with fail
          exact ⟨⟨4, by omega, rfl, HQ, bstep hbel b5⟩, by simp only [intOf]; decide⟩
        · simp only [ruleV] at hcell
          go_wp2_with fail
          refine (rule4 wr X H N S h n s hE).mono ?_
          rintro e w5 ⟨rfl, b5⟩
          rw [HA.out]
          go_wp2_with fail
          exact ⟨⟨5, by omega, rfl, HQ, bstep hbel b5⟩, by simp only [intOf]; decide⟩
        · simp only [ruleV] at hcell
          go_wp2_with fail
          refine (rule5 wr X H N S h n s hE).mono ?_
          rintro e w5 ⟨rfl, b5⟩
          rw [HA.out]
          go_wp2_with fail
          exact ⟨⟨6, by omega, rfl, HQ, bstep hbel b5⟩, by simp only [intOf]; decide⟩
        · simp only [ruleV] at hcell
          go_wp2_with fail
          refine (rule6 wr X H N S h n s hE).mono ?_
          rintro e w5 ⟨rfl, b5⟩
          rw [HA.out]
          go_wp2_with fail
          exact ⟨⟨7, by omega, rfl, HQ, bstep hbel b5⟩, by simp only [intOf]; decide⟩
        · simp only [ruleV] at hcell
          go_wp2_with fail
          refine (rule7 wr X H N S h n s hE).mono ?_
          rintro e w5 ⟨rfl, b5⟩
          rw [HA.out]
          go_wp2_with fail
          exact ⟨⟨8, by omega, rfl, HQ, bstep hbel b5⟩, by simp only [intOf]; decide⟩
        · simp only [ruleV] at hcell
          go_wp2_with fail
          refine (rule8 wr X H N S h n s hE).mono ?_
          rintro e w5 ⟨rfl, b5⟩
          rw [HA.out]
          go_wp2_with fail
          exact ⟨⟨9, by omega, rfl, HQ, bstep hbel b5⟩, by simp only [intOf]; decide⟩
      · have HQ : Hid (A = R) := by show _ = _; rw [← hp.out, plA_hit hlt (by rw [hA]; exact q)]; exact hA.symm
        have hne : (A != -1) = true := by simpa using q
        clear hA q
        rcases (show k = 0 ∨ k = 1 ∨ k = 2 ∨ k = 3 ∨ k = 4 ∨ k = 5 ∨ k = 6 ∨ k = 7 ∨ k = 8 by omega) with rfl | rfl | rfl | rfl | rfl | rfl | rfl | rfl | rfl
        · simp only [ruleV] at hcell
          go_wp2_with fail
          refine (rule0 wr X H N S h n s hE).mono ?_
          rintro e w5 ⟨rfl, b5⟩
          rw [HA.out]
          go_wp2_with fail
          go_ret
          exact ⟨retInt HQ.out, bstep b1 (bstep hbel b5)⟩
        · simp only [ruleV] at hcell
          go_wp2_with fail
          refine (rule1 wr X H N S h n s hE).mono ?_
          rintro e w5 ⟨rfl, b5⟩
          rw [HA.out]
          go_wp2_with fail
          go_ret
          exact ⟨retInt HQ.out, bstep b1 (bstep hbel b5)⟩
        · simp only [ruleV] at hcell
          go_wp2_with fail
          refine (rule2 wr X H N S h n s hE).mono ?_
          rintro e w5 ⟨rfl, b5⟩
          rw [HA.out]
          go_wp2_with fail
          go_ret
          exact ⟨retInt HQ.out, bstep b1 (bstep hbel b5)⟩
        · simp only [ruleV] at hcell
          go_wp2_with fail
          refine (rule3 wr X H N S h n s hE).mono ?_
          rintro e w5 ⟨rfl, b5⟩
          rw [HA.out]
          go_wp2_with fail
          go_ret
          exact ⟨retInt HQ.out, bstep b1 (bstep hbel b5)⟩
        · simp only [ruleV] at hcell
          go_wp2_with fail
          refine (rule4 wr X H N S h n s hE).mono ?_
          rintro e w5 ⟨rfl, b5⟩
          rw [HA.out]
          go_wp2_with fail
          go_ret
          exact ⟨retInt HQ.out, bstep b1 (bstep hbel b5)⟩
        · simp only [ruleV] at hcell
          go_wp2_with fail
          refine (rule5 wr X H N S h n s hE).mono ?_
          rintro e w5 ⟨rfl, b5⟩
          rw [HA.out]
          go_wp2_with fail
          go_ret
          exact ⟨retInt HQ.out, bstep b1 (bstep hbel b5)⟩
        · simp only [ruleV] at hcell
          go_wp2_with fail
          refine (rule6 wr X H N S h n s hE).mono ?_
          rintro e w5 ⟨rfl, b5⟩
          rw [HA.out]
          go_wp2_with fail
          go_ret
          exact ⟨retInt HQ.out, bstep b1 (bstep hbel b5)⟩
        · simp only [ruleV] at hcell
          go_wp2_with fail
          refine (rule7 wr X H N S h n s hE).mono ?_
          rintro e w5 ⟨rfl, b5⟩
          rw [HA.out]
          go_wp2_with fail
          go_ret
          exact ⟨retInt HQ.out, bstep b1 (bstep hbel b5)⟩
        · simp only [ruleV] at hcell
          go_wp2_with fail
          refine (rule8 wr X H N S h n s hE).mono ?_
          rintro e w5 ⟨rfl, b5⟩
          rw [HA.out]
          go_wp2_with fail
          go_ret
          exact ⟨retInt HQ.out, bstep b1 (bstep hbel b5)⟩
    · have e : k = 9 := by omega
      subst e
      go_wp2_with fail
      go_ret
      exact ⟨retInt hp.out, bstep b1 hbel⟩
end Go.Proofs.Ytbacfaddljjopaa
