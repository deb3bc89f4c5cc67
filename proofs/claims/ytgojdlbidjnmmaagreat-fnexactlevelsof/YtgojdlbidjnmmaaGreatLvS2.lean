import Derived.Test.YtgojdlbidjnmmaaGreatLvS1
namespace Go.Proofs.YtgojdlbidjnmmaaGreat
open Go.ChangeShapes Go.WideShapes Go.ChangeAt Go.RowKit
set_option linter.unusedSimpArgs false
set_option linter.unusedVariables false

theorem like_as (y : Int) : like y = if sideB (asB y) = true then asB y else 0 := by
  unfold like asB sideB
  by_cases h1 : y = 1
  · simp [h1]
  · by_cases h2 : y = 2
    · simp [h2]
    · by_cases h4 : y = 4 ∨ y = 7
      · rcases h4 with h4 | h4 <;> simp [h4]
      · simp [h1, h2, h4]
set_option maxHeartbeats 2000000 in
theorem specInside (g n cp a b : Nat) (x : Nat → Int) (o : Int) (w : World) (hx : Hid (∀ j, j < n → w.cell? ⟨g, j, none⟩ = some (.int .i64 (x j)))) (hn : n ≤ 1000) (ha : a < b) (hb : b ≤ n) (ho : o = 1 ∨ o = 2) :
    Calls Tryz.prog 127 #[.slice (some ⟨g, 0, none⟩) n cp, .int .i64 (a : Int), .int .i64 (b : Int), .int .i64 o] w fun e w' => e = .returned (.tuple #[.bool (ownIn x o a (b - (a + 1))), .bool (othIn x o a (b - (a + 1)))]) ∧ w' = w := by
  have HO : Hid (o = 1 ∨ o = 2) := ho
  clear ho
  go_enter Tryz.func127, Tryz.ntmps127
  go_wp2_with fail
  go_loop [10, 11, 12] (fun s t z => ∃ (k : Nat) (s0 t0 : Bool), z = .int .i64 ((a + 1 + k : Nat) : Int) ∧ a + 1 + k ≤ b ∧ s = .bool s0 ∧ t = .bool t0 ∧ Hid (ownIn x o a k = s0) ∧ Hid (othIn x o a k = t0)) (fun _ _ z => b - (intOf z).toNat)
  case atStart => exact ⟨0, false, false, by go_num, by omega, rfl, rfl, rfl, rfl⟩
  case round =>
    obtain ⟨k, s0, t0, rfl, hk, rfl, rfl, hs, ht⟩ := hrel
    obtain ⟨p, hp⟩ : ∃ p, a + 1 + k = p := ⟨_, rfl⟩
    rw [hp] at hk ⊢
    have HP : Hid (a + 1 + k = p) := hp
    clear hp
    by_cases hlt : p < b
    · have hpi : (p : Int) < (b : Int) := by omega
      have hpn : (p : Int) < (n : Int) := by omega
      have cx := hx.out p (by omega)
      obtain ⟨y, hy⟩ : ∃ y, x p = y := ⟨_, rfl⟩
      rw [hy] at cx
      have hlk := like_as y
      obtain ⟨z, hz⟩ : ∃ z, asB y = z := ⟨_, rfl⟩
      obtain ⟨q, hq⟩ : ∃ q, sideB z = q := ⟨_, rfl⟩
      rw [hz, hq] at hlk
      have HAS : Hid (∀ W, Calls Tryz.prog 130 #[.int .i64 y] W fun e w' => e = .returned (.int .i64 z) ∧ w' = W) := fun W => by rw [← hz]; exact specAs y W
      have HSI : Hid (∀ W, Calls Tryz.prog 131 #[.int .i64 z] W fun e w' => e = .returned (.bool q) ∧ w' = W) := fun W => by rw [← hq]; exact specSide? z W
      have hzr : q = true → z ≠ 0 := fun e => by rw [e] at hq; unfold sideB at hq; have := of_decide_eq_true hq; omega
      have hn1 : Hid (ownIn x o a (k + 1) = (s0 || (like y == o)) ∧ othIn x o a (k + 1) = (t0 || (!(like y == 0) && !(like y == o)))) := by
        have e1 : ownIn x o a (k + 1) = (ownIn x o a k || (like (x (a + 1 + k)) == o)) := rfl
        have e2 : othIn x o a (k + 1) = (othIn x o a k || (!(like (x (a + 1 + k)) == 0) && !(like (x (a + 1 + k)) == o))) := rfl
        unfold Hid
        rw [e1, e2, hs.out, ht.out, HP.out, hy]; exact ⟨rfl, rfl⟩
      have HL : Hid (like y = if q = true then z else 0) := hlk
      have HZR : Hid (q = true → z ≠ 0) := hzr
      clear hs ht hy hz hq hlk hzr
      cases q
      · have H2 : Hid (ownIn x o a (k + 1) = s0 ∧ othIn x o a (k + 1) = t0) := by
          have e : like y = 0 := by rw [HL.out]; simp
          have ho := HO.out
          unfold Hid
          rw [hn1.out.1, hn1.out.2, e]
          have : ((0 : Int) == o) = false := by simp; omega
          rw [this]; simp
        clear hn1
        go_wp2_with (first | (go_at_call 130; refine (HAS.out _).mono ?_; rintro e w1 ⟨rfl, hw1⟩; rw [hw1]; clear hw1 w1) | (go_at_call 131; refine (HSI.out _).mono ?_; rintro e w1 ⟨rfl, hw1⟩; rw [hw1]; clear hw1 w1))
        go_round
        case rel => exact ⟨k + 1, s0, t0, by rw [show a + 1 + (k + 1) = p + 1 by have := HP.out; omega]; go_num, by have := HP.out; omega, rfl, rfl, H2.out.1, H2.out.2⟩
        case measure => simp only [intOf]; omega
      · by_cases hzo : z = o
        · subst hzo
          have H2 : Hid (ownIn x z a (k + 1) = true ∧ othIn x z a (k + 1) = t0) := by
            have e : like y = z := by rw [HL.out]; simp
            unfold Hid
            rw [hn1.out.1, hn1.out.2, e]; simp
          clear hn1
          go_wp2_with (first | (go_at_call 130; refine (HAS.out _).mono ?_; rintro e w1 ⟨rfl, hw1⟩; rw [hw1]; clear hw1 w1) | (go_at_call 131; refine (HSI.out _).mono ?_; rintro e w1 ⟨rfl, hw1⟩; rw [hw1]; clear hw1 w1))
          go_round
          case rel => exact ⟨k + 1, true, t0, by rw [show a + 1 + (k + 1) = p + 1 by have := HP.out; omega]; go_num, by have := HP.out; omega, rfl, rfl, H2.out.1, H2.out.2⟩
          case measure => simp only [intOf]; omega
        · have hzb : (z == o) = false := by simpa using hzo
          have hzb2 : (z != o) = true := by simpa using hzo
          have H2 : Hid (ownIn x o a (k + 1) = s0 ∧ othIn x o a (k + 1) = true) := by
            have e : like y = z := by rw [HL.out]; simp
            have := HZR.out rfl
            unfold Hid
            rw [hn1.out.1, hn1.out.2, e, hzb]; simp [this]
          clear hn1
          go_wp2_with (first | (go_at_call 130; refine (HAS.out _).mono ?_; rintro e w1 ⟨rfl, hw1⟩; rw [hw1]; clear hw1 w1) | (go_at_call 131; refine (HSI.out _).mono ?_; rintro e w1 ⟨rfl, hw1⟩; rw [hw1]; clear hw1 w1))
          go_round
          case rel => exact ⟨k + 1, s0, true, by rw [show a + 1 + (k + 1) = p + 1 by have := HP.out; omega]; go_num, by have := HP.out; omega, rfl, rfl, H2.out.1, H2.out.2⟩
          case measure => simp only [intOf]; omega
    · have H2 : Hid (ownIn x o a (b - (a + 1)) = s0 ∧ othIn x o a (b - (a + 1)) = t0) := by
        have e : b - (a + 1) = k := by have := HP.out; omega
        unfold Hid; rw [e]; exact ⟨hs.out, ht.out⟩
      clear hs ht
      go_wp2_with fail
      go_ret2
      exact ⟨by rw [H2.out.1, H2.out.2]; rfl, rfl⟩
set_option maxHeartbeats 1000000 in
theorem specRise (lvl c : Int) (w : World) (h0 : 0 ≤ lvl) (h1 : lvl ≤ 22) (r : Int) (hr : Hid (lvl + moreF lvl c = r)) : Calls Tryz.prog 79 #[.int .i64 lvl, .int .i64 c] w fun e w' => e = .returned (.int .i64 r) ∧ w' = w := by
  have ht : Int.tmod lvl 2 = lvl % 2 := Int.tmod_eq_emod_of_nonneg h0
  rcases Int.emod_two_eq lvl with hm | hm
  · have h2 : Int.tmod lvl 2 = 0 := by omega
    have hrr : Hid (r = if c = 2 then lvl + 1 else if c = 1 then lvl else lvl + 2) := by
      unfold Hid; rw [← hr.out]; unfold moreF ownOf; simp only [hm]; by_cases a1 : c = 2
      · subst a1; simp
      · by_cases a2 : c = 1
        · subst a2; simp
        · simp [a1, a2]
    clear hr ht hm
    by_cases a1 : c = 2
    · have hr2 : Hid (r = lvl + 1) := by unfold Hid; rw [hrr.out, if_pos a1]
      subst a1
      clear hrr
      go_enter Tryz.func79, Tryz.ntmps79
      go_wp2_with fail
      go_ret
      exact ⟨retInt hr2.out.symm, rfl⟩
    · by_cases a2 : c = 1
      · have hr2 : Hid (r = lvl) := by unfold Hid; rw [hrr.out, if_neg a1, if_pos a2]
        subst a2
        clear hrr
        go_enter Tryz.func79, Tryz.ntmps79
        go_wp2_with fail
        go_ret
        exact ⟨retInt hr2.out.symm, rfl⟩
      · have hr2 : Hid (r = lvl + 2) := by unfold Hid; rw [hrr.out, if_neg a1, if_neg a2]
        have a3 : (c == 2) = false := by simpa using a1
        have a4 : (c != 1) = true := by simpa using a2
        clear hrr
        go_enter Tryz.func79, Tryz.ntmps79
        go_wp2_with fail
        go_ret
        exact ⟨retInt hr2.out.symm, rfl⟩
  · have h2 : Int.tmod lvl 2 = 1 := by omega
    have hrr : Hid (r = if c = 2 then lvl else lvl + 1) := by
      unfold Hid; rw [← hr.out]; unfold moreF ownOf; simp only [hm]; by_cases a1 : c = 2
      · subst a1; simp
      · simp [a1]
    clear hr ht hm
    by_cases a1 : c = 2
    · have hr2 : Hid (r = lvl) := by unfold Hid; rw [hrr.out, if_pos a1]
      subst a1
      clear hrr
      go_enter Tryz.func79, Tryz.ntmps79
      go_wp2_with fail
      go_ret
      exact ⟨retInt hr2.out.symm, rfl⟩
    · have hr2 : Hid (r = lvl + 1) := by unfold Hid; rw [hrr.out, if_neg a1]
      have a3 : (c != 2) = true := by simpa using a1
      clear hrr
      go_enter Tryz.func79, Tryz.ntmps79
      go_wp2_with fail
      go_ret
      exact ⟨retInt hr2.out.symm, rfl⟩
end Go.Proofs.YtgojdlbidjnmmaaGreat
