import Derived.Test.YtobmdefklgkoiaaSpPS4
namespace Go.Proofs.Ytobmdefklgkoiaa
open Go.ChangeShapes Go.WideShapes Go.ChangeAt Go.RowKit
set_option linter.unusedSimpArgs false
set_option linter.unusedVariables false

theorem wcIn_le {x lo hi : Int} (h : lo ≤ x ∧ x ≤ hi) : inB x lo hi = true := by simp only [inB, decide_eq_true_eq]; exact h

theorem specMoveL (g cap N B : Nat) (x : List (Int × Int)) (a : Nat) (k : Int) (w : World) (hv : OwnK w B (.slice (some ⟨g, 0, none⟩) N cap) N (flatP x)) (hx : x.length = N) (hN : N ≤ 80) (ha : a ≤ N) (hk1 : (a : Int) - (N : Int) ≤ k) (hk2 : k ≤ 80) :
    Calls Try.prog 44 #[.slice (some ⟨g, 0, none⟩) N cap, .int .i64 (a : Int), .int .i64 k] w fun e w' => ∃ v', e = .returned v' ∧ OwnK w' w.heap.size v' (moveLk x a k).length (flatP (moveLk x a k)) ∧ Below w.heap.size w w' := by
  have hf : N ≤ cap ∧ cap ≤ maxLen := by
    rcases hv.forms with ⟨e, _⟩ | ⟨g', cap', e, _, _, h3, h4⟩
    · cases e
    · simp at e; rw [e.2]; exact ⟨h3, h4⟩
  by_cases h : k < 0
  · obtain ⟨d, rfl⟩ : ∃ d : Nat, k = -(d : Int) := ⟨(-k).toNat, by omega⟩
    exact specMoveDown g cap N B x a d w hv hx hN (by omega) (by omega) hf.1 hf.2
  · obtain ⟨d, rfl⟩ : ∃ d : Nat, k = (d : Int) := ⟨k.toNat, by omega⟩
    exact specMoveUp g cap N B x a d w hv hx hN ha (by omega) hf.1 hf.2

set_option maxHeartbeats 600000 in
theorem specMoveS (v : Value) (n : Nat) (l : List Int) (c a k : Int) (w : World) (hv : ArgS w v n l) (hbig : n ≤ 1048576) :
    Calls Try.prog 22 #[v, .int .i64 c, .int .i64 a, .int .i64 k] w fun e w' => (∃ v', e = .returned v' ∧ OwnS w' w.heap.size v' (spQ 0 (moveS (fn l) n c a k)).length (spR 0 (moveS (fn l) n c a k))) ∧ Below w.heap.size w w' := by
  have HV : Hid (∀ w', Below w.heap.size w w' → ArgS w' v n l) := fun w' b => hv.below b
  clear hv
  by_cases hok : spansOk (fn l) n c = true
  · have HO : Hid _ := hok
    have hc80 := (spansOk_out hok).1
    have hen := endsOk_of hok
    obtain ⟨C, rfl⟩ : ∃ C : Nat, c = (C : Int) := ⟨c.toNat, by omega⟩
    have HC : Hid (C ≤ 80 ∧ n ≤ 12) := ⟨by omega, by omega⟩
    have HEN : Hid (endsOk (fn l) n) := hen
    have wr2 : wrap64 (80 - (C : Int)) = 80 - (C : Int) := by unfold wrap64; omega
    by_cases hmv : 0 ≤ a ∧ a ≤ (C : Int) ∧ a - (C : Int) ≤ k ∧ k ≤ 80 - (C : Int)
    · obtain ⟨h1, h2, h3, h4⟩ := hmv
      obtain ⟨A, rfl⟩ : ∃ A : Nat, a = (A : Int) := ⟨a.toNat, by omega⟩
      have HI1 : Hid (inB (A : Int) 0 (C : Int) = true) := wcIn_le ⟨h1, h2⟩
      have HI2 : Hid (inB k (-((C : Int) - (A : Int))) (80 - (C : Int)) = true) := wcIn_le ⟨by omega, h4⟩
      have wr1 : wrap64 ((C : Int) - (A : Int)) = (C : Int) - (A : Int) := by unfold wrap64; omega
      have wr3 : wrap64 (-((C : Int) - (A : Int))) = -((C : Int) - (A : Int)) := by unfold wrap64; omega
      have hml := move_same hok (at_ := A) (k := k) (by omega)
      rw [Int.toNat_natCast] at hml
      have hs : moveS (fn l) n (C : Int) (A : Int) k = rleR (moveLk (looksS (fn l) n C) A k) := by
        unfold moveS moveOk
        rw [hok, if_pos (by simp; omega), Int.toNat_natCast, Int.toNat_natCast, hml]
      have HS : Hid _ := hs
      have HQ : Hid (A ≤ C ∧ C ≤ 80 ∧ (A : Int) - (C : Int) ≤ k ∧ k ≤ 80 - (C : Int)) := ⟨by omega, by omega, h3, h4⟩
      clear hs hml hok hen hc80 h1 h2 h3 h4
      go_enter Try.func22, Try.ntmps22
      go_wp2_with fail
      refine (specSpansOk v n l (C : Int) _ (HV.out _ (Below.refl _ _)) hbig).mono ?_
      rintro e w1 ⟨rfl, b1⟩
      rw [HO.out]
      go_wp2_with (go_at_call 39; first | (with_reducible refine (specIn_is _ _ _ _ _ HI1).mono ?_; rintro e w' ⟨rfl, hw⟩; rw [hw]; clear hw w') | (with_reducible refine (specIn_is _ _ _ _ _ HI2).mono ?_; rintro e w' ⟨rfl, hw⟩; rw [hw]; clear hw w'))
      clear wr1 wr2 wr3
      refine (specLooks v n l C w1 (HV.out _ b1) HC.out.2 HC.out.1 HEN).mono ?_
      rintro e w2 ⟨v2, rfl, o2, b2, g2, c2, rfl⟩
      have B2 := bstep b1 b2
      go_wp2_with fail
      refine (specMoveL g2 c2 C _ (looksS (fn l) n C) A k w2 o2 (looksS_len _ _ _) HC.out.1 HQ.out.1 HQ.out.2.2.1 (by have := HQ.out; omega)).mono ?_
      rintro e w3 ⟨v3, rfl, o3, b3⟩
      have B3 := bstep B2 b3
      have hl3 : (moveLk (looksS (fn l) n C) A k).length ≤ 200 := by
        have hq := HQ.out
        unfold moveLk
        split
        · simp [looksS_len]; omega
        · simp [looksS_len]; omega
      go_wp2_with fail
      refine (specSpans _ (moveLk (looksS (fn l) n C) A k) w2.heap.size w3 o3 hl3).mono ?_
      rintro e w4 ⟨v4, rfl, o4, b4⟩
      rw [← HS.out] at o4
      go_wp2_with fail
      go_ret
      exact ⟨⟨_, rfl, o4.mono B3.size⟩, bstep B3 b4⟩
    · have hs : moveS (fn l) n (C : Int) a k = [] := by unfold moveS moveOk; rw [hok]; simp; intro h1 h2 h3; omega
      have HS : Hid _ := hs
      clear hs hok hen
      by_cases h1 : 0 ≤ a ∧ a ≤ (C : Int)
      · obtain ⟨h1, h2⟩ := h1
        have HI1 : Hid (inB a 0 (C : Int) = true) := wcIn_le ⟨h1, h2⟩
        have HI2 : Hid (inB k (-((C : Int) - a)) (80 - (C : Int)) = false) := by show _ = _; simp only [inB, decide_eq_false_iff_not]; omega
        have wr1 : wrap64 ((C : Int) - a) = (C : Int) - a := by unfold wrap64; omega
        have wr3 : wrap64 (-((C : Int) - a)) = -((C : Int) - a) := by unfold wrap64; omega
        clear hmv hc80 h1 h2
        go_enter Try.func22, Try.ntmps22
        go_wp2_with fail
        refine (specSpansOk v n l (C : Int) _ (HV.out _ (Below.refl _ _)) hbig).mono ?_
        rintro e w1 ⟨rfl, b1⟩
        rw [HO.out]
        go_wp2_with (go_at_call 39; first | (with_reducible refine (specIn_is _ _ _ _ _ HI1).mono ?_; rintro e w' ⟨rfl, hw⟩; rw [hw]; clear hw w') | (with_reducible refine (specIn_is _ _ _ _ _ HI2).mono ?_; rintro e w' ⟨rfl, hw⟩; rw [hw]; clear hw w'))
        go_ret
        rw [HS.out]
        exact ⟨⟨_, rfl, (emp_own w1).mono b1.size⟩, bstep b1 (below_new _ _)⟩
      · have HI1 : Hid (inB a 0 (C : Int) = false) := by show _ = _; simp only [inB, decide_eq_false_iff_not]; exact h1
        clear hmv hc80 h1 wr2
        go_enter Try.func22, Try.ntmps22
        go_wp2_with fail
        refine (specSpansOk v n l (C : Int) _ (HV.out _ (Below.refl _ _)) hbig).mono ?_
        rintro e w1 ⟨rfl, b1⟩
        rw [HO.out]
        go_wp2_with (go_at_call 39; (with_reducible refine (specIn_is _ _ _ _ _ HI1).mono ?_; rintro e w' ⟨rfl, hw⟩; rw [hw]; clear hw w'))
        go_ret
        rw [HS.out]
        exact ⟨⟨_, rfl, (emp_own w1).mono b1.size⟩, bstep b1 (below_new _ _)⟩
  · have hno : spansOk (fn l) n c = false := by simpa using hok
    have hs : moveS (fn l) n c a k = [] := by unfold moveS moveOk; rw [hno]; simp
    have HO : Hid _ := hno
    have HS : Hid _ := hs
    clear hs hno hok
    go_enter Try.func22, Try.ntmps22
    go_wp2_with fail
    refine (specSpansOk v n l c _ (HV.out _ (Below.refl _ _)) hbig).mono ?_
    rintro e w1 ⟨rfl, b1⟩
    rw [HO.out]
    go_wp2_with fail
    go_ret
    rw [HS.out]
    exact ⟨⟨_, rfl, (emp_own w1).mono b1.size⟩, bstep b1 (below_new _ _)⟩
end Go.Proofs.Ytobmdefklgkoiaa
