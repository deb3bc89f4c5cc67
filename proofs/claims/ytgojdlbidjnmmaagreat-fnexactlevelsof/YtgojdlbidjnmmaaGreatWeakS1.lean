import Derived.Test.YtgojdlbidjnmmaaGreatWeakI4
namespace Go.Proofs.YtgojdlbidjnmmaaGreat
open Go.ChangeShapes Go.WideShapes Go.ChangeAt Go.RowKit
set_option linter.unusedSimpArgs false

set_option maxHeartbeats 1000000 in
theorem specStrong (g n cp : Nat) (x : Nat → Int) (b : Int) (f : Nat) (w : World) (hc : Hid (∀ j, j < n → w.cell? ⟨g, j, none⟩ = some (.int .i64 (x j)))) (hf : f < n) (hl : n ≤ 80) :
    Calls Tryz.prog 123 #[.slice (some ⟨g, 0, none⟩) n cp, .int .i64 f, .int .i64 b] w fun e w' => e = .returned (.int .i64 (strong x b (f + 1))) ∧ w' = w := by
  go_enter Tryz.func123, Tryz.ntmps123
  go_wp2
  go_loop [7] (fun i => ∃ k : Nat, k ≤ f + 1 ∧ i = .int .i64 ((k : Int) - 1) ∧ Hid (strong x b (f + 1) = strong x b k)) (fun i => (intOf i + 1).toNat)
  case atStart => exact ⟨f + 1, Nat.le_refl _, by go_num, rfl⟩
  case round =>
    obtain ⟨k, hk, rfl, hst⟩ := hrel
    cases k with
    | zero =>
      go_wp2
      go_ret
      exact ⟨retInt hst.out.symm, rfl⟩
    | succ j =>
      have c := hc.out j (by omega)
      have ej : ((j + 1 : Nat) : Int) - 1 = (j : Int) := by omega
      rw [ej]
      have hs2 : strong x b (j + 1) = if x j = 1 ∨ x j = 2 ∨ x j = 3 then x j else strong x b j := rfl
      by_cases h123 : x j = 1 ∨ x j = 2 ∨ x j = 3
      · rw [if_pos h123] at hs2
        have HS : Hid (strong x b (f + 1) = x j) := hst.out.trans hs2
        clear hs2 ej
        obtain ⟨X, hX⟩ : ∃ X, x j = X := ⟨_, rfl⟩
        rw [hX] at c h123
        have HX : Hid _ := hX
        clear hX
        rcases h123 with rfl | rfl | rfl
        all_goals
          go_wp2
          go_ret
          exact ⟨retInt (by rw [HS.out, HX.out]), rfl⟩
      · rw [if_neg h123] at hs2
        have HS : Hid (strong x b (f + 1) = strong x b j) := hst.out.trans hs2
        have g1 : (x j == 1) = false := by simp; omega
        have g2 : (x j == 2) = false := by simp; omega
        have g3 : (x j == 3) = false := by simp; omega
        clear hs2 ej h123
        go_wp2
        go_round
        case rel => exact ⟨j, by omega, by go_num, HS⟩
        case measure => simp only [intOf]; omega

set_option maxHeartbeats 1000000 in
theorem specR1 (g n cp B : Nat) (b : Int) (hb : Hid (b = 1 ∨ b = 2)) (l : List Int) (w : World) (hn : Hid (l.length = n)) (hv : OwnI w B (.slice (some ⟨g, 0, none⟩) n cp) l) (hl : n ≤ 80) :
    Calls Tryz.prog 122 #[.slice (some ⟨g, 0, none⟩) n cp, .int .i64 b] w fun e w' => e = .returned (.tuple #[]) ∧ Ruled w w' B g n cp (r1 l b) := by
  have HR : Hid (r1 l b = mkL n (m1 (fn l) b)) := by show _ = _; unfold r1; rw [hn.out]
  rw [HR.out]
  have HS : Hid (Ruling w w B g n cp 0 (m1 (fn l) b) (fn l)) := Ruling.start hv
  go_enter Tryz.func122, Tryz.ntmps122
  go_wp2
  go_loopw [4] (fun i wr => ∃ f : Nat, f ≤ n ∧ i = .int .i64 f ∧ Hid (Ruling w wr B g n cp f (m1 (fn l) b) (fn l))) (fun i _ => n - (intOf i).toNat)
  case atStart => exact ⟨0, Nat.zero_le _, rfl, HS⟩
  case round =>
    obtain ⟨f, hf, rfl, hr⟩ := hrel
    by_cases hlt : f < n
    · have c := hr.out.cell (Nat.le_refl _) hlt
      have fz := hr.out.free f
      by_cases e9 : fn l f = 9
      · have hst := m1_step hb.out e9
        rw [e9] at c
        cases f with
        | zero =>
          have hm : m1 (fn l) b 0 = b := by show (if _ then _ else _) = _; rw [if_pos e9]
          have HM : Hid _ := hm
          clear hst e9 hm
          go_wp2
          go_roundw
          case rel => exact ⟨1, by omega, by go_num, hr.out.set hlt HM.out⟩
          case measure => simp only [intOf]; omega
        | succ k =>
          have cA := hr.out.done (j := k) (by omega) (by omega)
          have hk0 : ((k : Int) + 1 == 0) = false := by simp; omega
          obtain ⟨A, hA⟩ : ∃ A, m1 (fn l) b k = A := ⟨_, rfl⟩
          have hA' : ahM (fn l) b (k + 1) = A := hA
          rw [hA'] at hst
          rw [hA] at cA
          clear e9 hA hA'
          by_cases ho : opensB A = true
          · rw [if_pos (.inl ho)] at hst
            have HM : Hid _ := hst
            have HO : Hid _ := ho
            clear ho hst
            go_wp2_with (go_at_call 120; refine (specOpens _ _).mono ?_; rintro e w' ⟨rfl, rfl⟩; rw [HO.out])
            go_roundw
            case rel => exact ⟨k + 1 + 1, by omega, by go_num, hr.out.set hlt HM.out⟩
            case measure => simp only [intOf]; omega
          · have ho' : opensB A = false := by simpa using ho
            have HO : Hid _ := ho'
            by_cases h22 : A = 22
            · rw [if_pos (.inr h22)] at hst
              have HM : Hid _ := hst
              subst h22
              clear ho ho' hst
              go_wp2_with (go_at_call 120; refine (specOpens _ _).mono ?_; rintro e w' ⟨rfl, rfl⟩; rw [HO.out])
              go_roundw
              case rel => exact ⟨k + 1 + 1, by omega, by go_num, hr.out.set hlt HM.out⟩
              case measure => simp only [intOf]; omega
            · rw [if_neg (by simp [ho', h22])] at hst
              have HM : Hid _ := hst
              have g22 : (A == 22) = false := by simpa using h22
              clear ho ho' hst h22
              go_wp2_with (go_at_call 120; refine (specOpens _ _).mono ?_; rintro e w' ⟨rfl, rfl⟩; rw [HO.out])
              go_roundw
              case rel => exact ⟨k + 1 + 1, by omega, by go_num, hr.out.set hlt HM.out⟩
              case measure => simp only [intOf]; omega
      · have g9 : (fn l f != 9) = true := by simpa using e9
        have hk := m1_keep (b := b) e9
        have HK : Hid _ := hk
        clear e9 hk
        go_wp2
        go_roundw
        case rel => exact ⟨f + 1, by omega, by go_num, hr.out.keep hlt HK.out⟩
        case measure => simp only [intOf]; omega
    · have e : f = n := by omega
      subst e
      go_wp2
      go_end0
      exact ⟨rfl, hr.out.fin⟩

set_option maxHeartbeats 2000000 in
theorem specR4 (g n cp B : Nat) (l : List Int) (w : World) (hn : Hid (l.length = n)) (hv : OwnI w B (.slice (some ⟨g, 0, none⟩) n cp) l) (hn0 : 0 < n) (hl : n ≤ 80) :
    Calls Tryz.prog 124 #[.slice (some ⟨g, 0, none⟩) n cp] w fun e w' => e = .returned (.tuple #[]) ∧ Ruled w w' B g n cp (r4 l) := by
  have HR : Hid (r4 l = mkL n (m4 (fn l) n)) := by show _ = _; unfold r4; rw [hn.out]
  rw [HR.out]
  have HS : Hid (Ruling w w B g n cp 1 (m4 (fn l) n) (fn l)) := Ruling.keep (Ruling.start hv) hn0 rfl
  go_enter Tryz.func124, Tryz.ntmps124
  go_wp2
  go_loopw [2] (fun i wr => ∃ k : Nat, k + 1 ≤ n ∧ i = .int .i64 ((k : Int) + 1) ∧ Hid (Ruling w wr B g n cp (k + 1) (m4 (fn l) n) (fn l))) (fun i _ => n - (intOf i).toNat)
  case atStart => exact ⟨0, by omega, rfl, HS⟩
  case round =>
    obtain ⟨k, hk, rfl, hr⟩ := hrel
    by_cases hlt : k + 2 < n
    · have cA := hr.out.done (j := k) (by omega) (by omega)
      have cC := hr.out.cell (j := k + 1) (by omega) (by omega)
      have cD := hr.out.cell (j := k + 2) (by omega) (by omega)
      have fz := hr.out.free (k + 1)
      have HT := fun h => m4_take (z := fn l) (n := n) (k := k) hlt h
      have HK := fun h => m4_keep (z := fn l) (n := n) (k := k) h
      obtain ⟨A, hA⟩ : ∃ A, m4 (fn l) n k = A := ⟨_, rfl⟩
      obtain ⟨C, hC⟩ : ∃ A, fn l (k + 1) = A := ⟨_, rfl⟩
      obtain ⟨D, hD⟩ : ∃ A, fn l (k + 2) = A := ⟨_, rfl⟩
      rw [hA] at cA
      rw [hC] at cC
      rw [hD] at cD
      rw [hA, hC, hD] at HT HK
      have HC : Hid _ := hC
      have HT2 : Hid _ := HT
      have HK2 : Hid _ := HK
      clear hA hC hD HT HK
      have hi1 : ((k : Int) + 1 + 1 < (n : Int)) := by omega
      have hi2 : ((k : Int) + 1 < (n : Int)) := by omega
      have hi3 : ((k : Int) < (n : Int)) := by omega
      by_cases hAD : A = D
      · subst hAD
        have gAD : (A != A) = false := by simp
        by_cases hb : btw A C A = true
        · have hm := HT2.out hb
          have HM : Hid _ := hm
          unfold btw at hb
          rw [decide_eq_true_eq] at hb
          clear HT2 HK2 hm gAD
          rcases hb.2 with ⟨rfl, rfl | rfl⟩ | ⟨rfl, rfl⟩
          all_goals
            clear hb
            go_wp2
            go_roundw
            case rel => exact ⟨k + 1, by omega, by go_num, hr.out.set (by omega) HM.out⟩
            case measure => simp only [intOf]; omega
        · have hb' : btw A C A = false := by simpa using hb
          have hm := HK2.out hb'
          have HM : Hid (m4 (fn l) n (k + 1) = fn l (k + 1)) := by show _ = _; rw [hm, HC.out]
          unfold btw at hb'
          rw [decide_eq_false_iff_not] at hb'
          clear HT2 HK2 hm hb
          by_cases e4 : A = 4
          · subst e4
            have g5 : (C == 5) = false := by simp; omega
            have g8 : (C == 8) = false := by simp; omega
            clear hb'
            go_wp2
            go_roundw
            case rel => exact ⟨k + 1, by omega, by go_num, hr.out.keep (by omega) HM.out⟩
            case measure => simp only [intOf]; omega
          · have g4 : (A == 4) = false := by simpa using e4
            by_cases e7 : A = 7
            · subst e7
              have g8 : (C == 8) = false := by simp; omega
              clear hb' e4
              go_wp2
              go_roundw
              case rel => exact ⟨k + 1, by omega, by go_num, hr.out.keep (by omega) HM.out⟩
              case measure => simp only [intOf]; omega
            · have g7 : (A == 7) = false := by simpa using e7
              clear hb' e4 e7
              go_wp2
              go_roundw
              case rel => exact ⟨k + 1, by omega, by go_num, hr.out.keep (by omega) HM.out⟩
              case measure => simp only [intOf]; omega
      · have gAD : (A != D) = true := by simpa using hAD
        have hm := HK2.out (by unfold btw; rw [decide_eq_false_iff_not]; exact fun h => hAD h.1)
        have HM : Hid (m4 (fn l) n (k + 1) = fn l (k + 1)) := by show _ = _; rw [hm, HC.out]
        clear HT2 HK2 hm hAD
        go_wp2
        go_roundw
        case rel => exact ⟨k + 1, by omega, by go_num, hr.out.keep (by omega) HM.out⟩
        case measure => simp only [intOf]; omega
    · have hi1 : ¬ ((k : Int) + 1 + 1 < (n : Int)) := by omega
      have hfin : Ruling w wr B g n cp n (m4 (fn l) n) (fn l) := by
        by_cases e : k + 1 = n
        · rw [← e]; rw [← e] at hr; exact hr.out
        · have := hr.out.keep (by omega) (m4_end (z := fn l) hlt)
          rwa [show k + 1 + 1 = n by omega] at this
      have HF : Hid _ := hfin
      clear hfin
      go_wp2
      go_end0
      exact ⟨rfl, Ruling.fin (m := m4 (fn l) n) (z := fn l) HF.out⟩
end Go.Proofs.YtgojdlbidjnmmaaGreat
