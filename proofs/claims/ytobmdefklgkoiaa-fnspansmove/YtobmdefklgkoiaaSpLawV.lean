import Derived.Test.YtobmdefklgkoiaaSpLawM3
import Derived.Test.YtobmdefklgkoiaaWcSp
import Derived.Test.YtobmdefklgkoiaaDrawMove
import Derived.Test.YtobmdefklgkoiaaSpPS5
import Derived.Test.YtobmdefklgkoiaaSpPI
import Derived.Test.YtobmdefklgkoiaaSpanAtI
import Derived.Test.YtobmdefklgkoiaaSpCo2
import Derived.Test.YtobmdefklgkoiaaSpanOk4
namespace Go.Proofs.Ytobmdefklgkoiaa
open Go.ChangeShapes Go.WideShapes Go.ChangeAt Go.RowKit
set_option linter.unusedSimpArgs false
set_option linter.unusedVariables false

set_option maxHeartbeats 1000000 in
theorem wcIn_atV (n lo hi : Int) (w : World) (q : Bool) (hq : Hid (inB n lo hi = q)) : Calls Try.prog 19 #[.int .i64 n, .int .i64 lo, .int .i64 hi] w fun e w' => e = .returned (.bool q) ∧ w' = w := by
  rw [← hq.out]
  go_enter Try.func19, Try.ntmps19
  go_wp2
  all_goals (go_ret; refine ⟨retBool ?_, rfl⟩)
  all_goals (simp [inB])
  all_goals omega
theorem move_small (z : Nat → Int) (n C A : Nat) (k : Int) : (spQ 0 (moveS z n (C : Int) (A : Int) k)).length ≤ 12 := by
  by_cases h : moveOk z n (C : Int) (A : Int) k = true
  · have h0 := h
    unfold moveOk at h0
    rw [Bool.and_eq_true, decide_eq_true_eq] at h0
    exact (moveS_told h (D := ((C : Int) + k).toNat) (by omega)).2.2
  · unfold moveS; rw [if_neg h]; simp [spQ]
theorem plain_small (z : Nat → Int) (n : Nat) (c : Int) : (spQ 0 (plainS z n c)).length ≤ 12 := by
  unfold plainS
  split
  · rename_i h
    have := looks_sp z n c
    have := (spansOk_out h).1
    omega
  · simp [spQ]

set_option maxRecDepth 10000 in
set_option maxHeartbeats 1000000 in
theorem spansMoveLaw (a : Option Addr) (len cap : Nat) (w : World) (h : Bytes w a len cap) :
    Calls Try.prog 5 #[.slice a len cap] w fun e w' => e = .returned (.bool true) ∧ Below w.heap.size w w' := by
  by_cases hbig : 1048576 < len
  · have hbi : (1048576 : Int) < (len : Int) := by omega
    go_enter Try.func5, Try.ntmps5
    go_wp2_with fail
    go_ret
    exact ⟨rfl, Below.refl _ _⟩
  · have hbi : (len : Int) ≤ 1048576 := by omega
    go_enter Try.func5, Try.ntmps5
    go_wp2_with fail
    refine (drawSpansMove a len cap w h).mono ?_
    rintro e w1 ⟨⟨v, C, A, k, rfl, ⟨n, l, o1, hn⟩, hC, hAC⟩, b1⟩
    obtain ⟨av, cv, rfl⟩ := OwnS.nz o1
    have HV : Hid (∀ w', Below w1.heap.size w1 w' → ArgS w' (.slice av n cv) n l) := fun w' b => (o1.below b).arg
    have HBU : Hid (Below w.heap.size w w1) := b1
    have HN : Hid (n ≤ 1000 ∧ C < 20 ∧ A ≤ C) := ⟨by omega, hC, hAC⟩
    clear o1 b1 hn hC h hAC
    obtain ⟨R, hR⟩ : ∃ R, moveS (fn l) n (C : Int) (A : Int) k = R := ⟨_, rfl⟩
    obtain ⟨M, hM⟩ : ∃ M, (spQ 0 R).length = M := ⟨_, rfl⟩
    have hMl : M ≤ 12 := by rw [← hM, ← hR]; exact move_small _ _ _ _ _
    have HR : Hid (moveS (fn l) n (C : Int) (A : Int) k = R) := hR
    have HM : Hid ((spQ 0 R).length = M) := hM
    clear hR hM
    go_wp2_with fail
    refine (implMove _ n l (C : Int) (A : Int) k _ (HV.out _ (Below.refl _ _))).mono ?_
    rintro e w2 ⟨⟨x, rfl, o2⟩, b2⟩
    rw [HR.out, HM.out] at o2
    obtain ⟨ax, cx, rfl⟩ := OwnS.nz o2
    have HX : Hid (∀ w', Below w2.heap.size w2 w' → ArgS w' (.slice ax M cx) M (spR 0 R)) := fun w' b => (o2.below b).arg
    clear o2
    have HB2 : Hid (Below w1.heap.size w1 w2) := b2
    clear b2
    go_wp2_with fail
    refine (specMoveS _ n l (C : Int) (A : Int) k _ (HV.out _ HB2.out) (by have := HN.out; omega)).mono ?_
    rintro e w3 ⟨⟨y, rfl, o3⟩, b3⟩
    rw [HR.out, HM.out] at o3
    go_wp2_with fail
    refine (wcSpans_same _ _ M (spR 0 R) _ (HX.out _ b3) o3.arg (by omega)).mono ?_
    rintro e w4 ⟨rfl, b4⟩
    have HB24 : Hid (Below w2.heap.size w2 w4) := bstep b3 b4
    have HB14 : Hid (Below w1.heap.size w1 w4) := HB2.out.trans (HB24.out.mono HB2.out.size)
    clear b3 b4 o3
    go_wp2_with fail
    refine (specSpansOk _ n l (C : Int) _ (HV.out _ HB14.out) (by have := HN.out; omega)).mono ?_
    rintro e w5 ⟨rfl, b5⟩
    have HB25 : Hid (Below w2.heap.size w2 w5) := bstep HB24.out b5
    have HB15 : Hid (Below w1.heap.size w1 w5) := bstep HB14.out b5
    clear b5
    obtain ⟨ok, hok⟩ : ∃ ok, spansOk (fn l) n (C : Int) = ok := ⟨_, rfl⟩
    rw [hok]
    have HOK : Hid (spansOk (fn l) n (C : Int) = ok) := hok
    clear hok
    have hC20 : (C : Int) < 20 := by have := HN.out; omega
    have hAC : (A : Int) ≤ (C : Int) := by have := HN.out; omega
    cases ok with
    | false =>
      go_wp2_with fail
      refine (specMoveS _ n l (C : Int) (A : Int) k _ (HV.out _ HB15.out) (by have := HN.out; omega)).mono ?_
      rintro e w6 ⟨⟨y, rfl, o6⟩, b6⟩
      rw [HR.out, HM.out] at o6
      go_wp2_with fail
      refine (wcSpans_same _ _ M (spR 0 R) _ (HX.out _ (bstep HB25.out b6)) o6.arg (by omega)).mono ?_
      rintro e w7 ⟨rfl, b7⟩
      go_wp2_with fail
      go_ret
      exact ⟨rfl, HBU.out.trans ((bstep (bstep HB15.out b6) b7).mono HBU.out.size)⟩
    | true =>
      have HI1 : Hid (inB (A : Int) 0 (C : Int) = true) := by show _ = _; simp only [inB, decide_eq_true_eq]; omega
      go_wp2_with fail
      with_reducible refine (wcIn_atV _ _ _ _ _ HI1).mono ?_
      rintro e wc ⟨rfl, hwc⟩
      rw [hwc]
      clear hwc wc
      obtain ⟨g, hg⟩ : ∃ g, inB k ((A : Int) - (C : Int)) (80 - (C : Int)) = g := ⟨_, rfl⟩
      have HI2 : Hid (inB k ((A : Int) - (C : Int)) (80 - (C : Int)) = g) := hg
      clear hg
      have wa1 : IntKind.i64.wrap ((A : Int) - (C : Int)) = (A : Int) - (C : Int) := by simp [IntKind.wrap, IntKind.bits, IntKind.signed]; omega
      have wa2 : IntKind.i64.wrap (80 - (C : Int)) = 80 - (C : Int) := by simp [IntKind.wrap, IntKind.bits, IntKind.signed]; omega
      have wa3 : wrap64 ((A : Int) - (C : Int)) = (A : Int) - (C : Int) := by unfold wrap64; omega
      have wa4 : wrap64 (80 - (C : Int)) = 80 - (C : Int) := by unfold wrap64; omega
      go_wp2_with fail
      with_reducible refine (wcIn_atV _ _ _ _ _ HI2).mono ?_
      rintro e wc ⟨rfl, hwc⟩
      rw [hwc]
      clear hwc wc
      cases g with
      | false =>
        go_wp2_with fail
        refine (specMoveS _ n l (C : Int) (A : Int) k _ (HV.out _ HB15.out) (by have := HN.out; omega)).mono ?_
        rintro e w6 ⟨⟨y, rfl, o6⟩, b6⟩
        rw [HR.out, HM.out] at o6
        go_wp2_with fail
        refine (wcSpans_same _ _ M (spR 0 R) _ (HX.out _ (bstep HB25.out b6)) o6.arg (by omega)).mono ?_
        rintro e w7 ⟨rfl, b7⟩
        go_wp2_with fail
        go_ret
        exact ⟨rfl, HBU.out.trans ((bstep (bstep HB15.out b6) b7).mono HBU.out.size)⟩
      | true =>
        have hg2 : (A : Int) - (C : Int) ≤ k ∧ k ≤ 80 - (C : Int) := by have := HI2.out; simp only [inB, decide_eq_true_eq] at this; omega
        obtain ⟨hk1, hk2⟩ := hg2
        obtain ⟨D, hD⟩ : ∃ D : Nat, (D : Int) = (C : Int) + k := ⟨((C : Int) + k).toNat, by omega⟩
        have hmo : moveOk (fn l) n (C : Int) (A : Int) k = true := by unfold moveOk; rw [HOK.out, Bool.true_and, decide_eq_true_eq]; omega
        obtain ⟨hm1, hm2, _⟩ := moveS_told hmo hD
        rw [HR.out, HM.out] at hm1 hm2
        have HT : Hid (∀ i : Nat, i < D → spanAt (fn (spR 0 R)) M (i : Int) = lookM (fn l) n A k i) := hm1
        have HT2 : Hid (0 ≤ k → moveS (fn (spR 0 R)) M (D : Int) (A : Int) (-k) = plainS (fn l) n (C : Int)) := hm2
        have HDK : Hid ((D : Int) = (C : Int) + k) := hD
        have hDK : (C : Int) + k = (D : Int) := hD.symm
        have wd1 : IntKind.i64.wrap ((C : Int) + k) = (D : Int) := by simp [IntKind.wrap, IntKind.bits, IntKind.signed]; omega
        have wd2 : wrap64 ((C : Int) + k) = (D : Int) := by unfold wrap64; omega
        have hD80 : (D : Int) ≤ 80 := by omega
        have HK : Hid ((A : Int) - (C : Int) ≤ k ∧ k ≤ 80 - (C : Int)) := ⟨hk1, hk2⟩
        have wk1 : IntKind.i64.wrap (-k) = -k := by simp [IntKind.wrap, IntKind.bits, IntKind.signed]; omega
        have wk2 : wrap64 (-k) = -k := by unfold wrap64; omega
        clear hm1 hm2 hmo hD wa1 wa2 wa3 wa4 hk1 hk2
        go_wp2_with fail
        go_loopw [8] (fun i wr => ∃ j : Nat, j ≤ D ∧ i = .int .i64 (j : Int) ∧ Below w5.heap.size w5 wr) (fun i _ => D - (intOf i).toNat)
        case atStart => exact ⟨0, Nat.zero_le _, rfl, Below.refl _ _⟩
        case round =>
          obtain ⟨j, hj, rfl, hbel⟩ := hrel
          have HBE : Hid (Below w5.heap.size w5 wr) := hbel
          have HB1r : Hid (Below w1.heap.size w1 wr) := HB15.out.trans (hbel.mono HB15.out.size)
          have HB2r : Hid (Below w2.heap.size w2 wr) := HB25.out.trans (hbel.mono HB25.out.size)
          clear hbel
          have HKD : Hid (k ≤ 80) := by have := HK.out; show k ≤ 80; omega
          have HKE : Hid (-20 ≤ k) := by have := HK.out; show -20 ≤ k; omega
          by_cases hlt : j < D
          · have hji : (j : Int) < (D : Int) := by omega
            obtain ⟨r, hr⟩ : ∃ r, lookM (fn l) n A k j = r := ⟨_, rfl⟩
            have HR2 : Hid (spanAt (fn (spR 0 R)) M (j : Int) = r) := (HT.out j hlt).trans hr
            have n1 : (r.1 != r.1) = false := by simp
            have n2 : (r.2 != r.2) = false := by simp
            have hok := HOK.out
            unfold lookM at hr
            by_cases hk : k < 0
            · have hk0 : ¬ (0 ≤ k) := by omega
              by_cases h1 : j < A
              · rw [if_pos h1] at hr
                have HR1 : Hid (spanAt (fn l) n (j : Int) = r) := (spanAt_ok hok).trans hr
                have h1i : ¬ (A : Int) ≤ (j : Int) := by omega
                have hj0 : (0 : Int) ≤ (j : Int) := by omega
                clear hr hok
                go_wp2_with fail
                refine (implSpanAt _ n l (j : Int) _ (HV.out _ HB1r.out) r HR1).mono ?_
                rintro e w8 ⟨rfl, b8⟩
                go_wp2_with fail
                refine (implSpanAt _ M (spR 0 R) (j : Int) _ (HX.out _ (bstep HB2r.out b8)) r HR2).mono ?_
                rintro e w9 ⟨rfl, b9⟩
                go_wp2_with fail
                exact ⟨⟨j + 1, hlt, by simp, bstep (bstep HBE.out b8) b9⟩, by simp only [intOf]; omega⟩
              · rw [if_neg h1, if_pos hk] at hr
                obtain ⟨f, hf⟩ : ∃ f : Int, (j : Int) - k = f := ⟨_, rfl⟩
                rw [hf] at hr
                have HR1 : Hid (spanAt (fn l) n f = r) := (spanAt_ok hok).trans hr
                have h1i : (A : Int) ≤ (j : Int) := by omega
                have wf1 : IntKind.i64.wrap ((j : Int) - k) = f := by have := HKE.out; simp [IntKind.wrap, IntKind.bits, IntKind.signed]; omega
                have wf2 : wrap64 ((j : Int) - k) = f := by have := HKE.out; unfold wrap64; omega
                have hf0 : 0 ≤ f := by omega
                clear hr hok hf
                go_wp2_with fail
                refine (implSpanAt _ n l f _ (HV.out _ HB1r.out) r HR1).mono ?_
                rintro e w8 ⟨rfl, b8⟩
                go_wp2_with fail
                refine (implSpanAt _ M (spR 0 R) (j : Int) _ (HX.out _ (bstep HB2r.out b8)) r HR2).mono ?_
                rintro e w9 ⟨rfl, b9⟩
                go_wp2_with fail
                exact ⟨⟨j + 1, hlt, by simp, bstep (bstep HBE.out b8) b9⟩, by simp only [intOf]; omega⟩
            · have hk0 : 0 ≤ k := by omega
              by_cases h1 : j < A
              · rw [if_pos h1] at hr
                have HR1 : Hid (spanAt (fn l) n (j : Int) = r) := (spanAt_ok hok).trans hr
                have h1i : ¬ (A : Int) ≤ (j : Int) := by omega
                have hj0 : (0 : Int) ≤ (j : Int) := by omega
                clear hr hok
                go_wp2_with fail
                refine (implSpanAt _ n l (j : Int) _ (HV.out _ HB1r.out) r HR1).mono ?_
                rintro e w8 ⟨rfl, b8⟩
                go_wp2_with fail
                refine (implSpanAt _ M (spR 0 R) (j : Int) _ (HX.out _ (bstep HB2r.out b8)) r HR2).mono ?_
                rintro e w9 ⟨rfl, b9⟩
                go_wp2_with fail
                exact ⟨⟨j + 1, hlt, by simp, bstep (bstep HBE.out b8) b9⟩, by simp only [intOf]; omega⟩
              · rw [if_neg h1, if_neg hk] at hr
                have h1i : (A : Int) ≤ (j : Int) := by omega
                obtain ⟨s, hs⟩ : ∃ s : Int, (A : Int) + k = s := ⟨_, rfl⟩
                have ws1 : IntKind.i64.wrap ((A : Int) + k) = s := by have := HKD.out; simp [IntKind.wrap, IntKind.bits, IntKind.signed]; omega
                have ws2 : wrap64 ((A : Int) + k) = s := by have := HKD.out; unfold wrap64; omega
                rw [hs] at hr
                obtain ⟨f, hf⟩ : ∃ f : Int, (j : Int) - k = f := ⟨_, rfl⟩
                rw [hf] at hr
                have wf1 : IntKind.i64.wrap ((j : Int) - k) = f := by have := HKD.out; simp [IntKind.wrap, IntKind.bits, IntKind.signed]; omega
                have wf2 : wrap64 ((j : Int) - k) = f := by have := HKD.out; unfold wrap64; omega
                by_cases h3 : (j : Int) < s
                · rw [if_pos h3] at hr
                  have h3i : ¬ s ≤ (j : Int) := by omega
                  unfold inL at hr
                  by_cases h4 : 0 < A
                  · rw [if_pos h4] at hr
                    obtain ⟨q, hq⟩ : ∃ q : Int, (A : Int) - 1 = q := ⟨_, rfl⟩
                    rw [hq] at hr
                    have wq1 : IntKind.i64.wrap ((A : Int) - 1) = q := by simp [IntKind.wrap, IntKind.bits, IntKind.signed]; omega
                    have wq2 : wrap64 ((A : Int) - 1) = q := by unfold wrap64; omega
                    have hq0 : 0 ≤ q := by omega
                    have HR1 : Hid (spanAt (fn l) n q = r) := (spanAt_ok hok).trans hr
                    clear hr hok hf hs hq
                    go_wp2_with fail
                    refine (implSpanAt _ n l q _ (HV.out _ HB1r.out) r HR1).mono ?_
                    rintro e w8 ⟨rfl, b8⟩
                    go_wp2_with fail
                    refine (implSpanAt _ M (spR 0 R) (j : Int) _ (HX.out _ (bstep HB2r.out b8)) r HR2).mono ?_
                    rintro e w9 ⟨rfl, b9⟩
                    go_wp2_with fail
                    exact ⟨⟨j + 1, hlt, by simp, bstep (bstep HBE.out b8) b9⟩, by simp only [intOf]; omega⟩
                  · rw [if_neg h4] at hr
                    have wq1 : IntKind.i64.wrap ((A : Int) - 1) = -1 := by simp [IntKind.wrap, IntKind.bits, IntKind.signed]; omega
                    have wq2 : wrap64 ((A : Int) - 1) = -1 := by unfold wrap64; omega
                    subst hr
                    clear hok hf hs n1 n2
                    go_wp2_with fail
                    refine (implSpanAt _ M (spR 0 R) (j : Int) _ (HX.out _ HB2r.out) (10, 0) HR2).mono ?_
                    rintro e w9 ⟨rfl, b9⟩
                    go_wp2_with fail
                    exact ⟨⟨j + 1, hlt, by simp, bstep HBE.out b9⟩, by simp only [intOf]; omega⟩
                · rw [if_neg h3] at hr
                  have h3i : s ≤ (j : Int) := by omega
                  have hf0 : 0 ≤ f := by omega
                  have HR1 : Hid (spanAt (fn l) n f = r) := (spanAt_ok hok).trans hr
                  clear hr hok hf hs h3
                  go_wp2_with fail
                  refine (implSpanAt _ n l f _ (HV.out _ HB1r.out) r HR1).mono ?_
                  rintro e w8 ⟨rfl, b8⟩
                  go_wp2_with fail
                  refine (implSpanAt _ M (spR 0 R) (j : Int) _ (HX.out _ (bstep HB2r.out b8)) r HR2).mono ?_
                  rintro e w9 ⟨rfl, b9⟩
                  go_wp2_with fail
                  exact ⟨⟨j + 1, hlt, by simp, bstep (bstep HBE.out b8) b9⟩, by simp only [intOf]; omega⟩
          · have e : j = D := by omega
            subst e
            by_cases hk : k < 0
            · go_wp2_with fail
              go_ret
              exact ⟨rfl, HBU.out.trans (HB1r.out.mono HBU.out.size)⟩
            · have hk0 : 0 ≤ k := by omega
              have HP := HT2.out hk0
              obtain ⟨P, hP⟩ : ∃ P, plainS (fn l) n (C : Int) = P := ⟨_, rfl⟩
              rw [hP] at HP
              have HPl : Hid ((spQ 0 P).length ≤ 12) := by have := plain_small (fn l) n (C : Int); rw [hP] at this; exact this
              have HP1 : Hid (moveS (fn (spR 0 R)) M (j : Int) (A : Int) (-k) = P) := HP
              have HP2 : Hid (plainS (fn l) n (C : Int) = P) := hP
              clear HP hP hlt
              go_wp2_with fail
              refine (implMove _ M (spR 0 R) (j : Int) (A : Int) (-k) _ (HX.out _ HB2r.out)).mono ?_
              rintro e w6 ⟨⟨x6, rfl, o6⟩, b6⟩
              rw [HP1.out] at o6
              go_wp2_with fail
              refine (implPlain _ n l (C : Int) _ (HV.out _ (bstep HB1r.out b6))).mono ?_
              rintro e w7 ⟨⟨x7, rfl, o7⟩, b7⟩
              rw [HP2.out] at o7
              go_wp2_with fail
              refine (wcSpans_same _ _ _ _ _ (o6.below b7).arg o7.arg (by have := HPl.out; omega)).mono ?_
              rintro e w9 ⟨rfl, b9⟩
              go_wp2_with fail
              go_ret
              exact ⟨rfl, HBU.out.trans ((bstep (bstep (bstep HB1r.out b6) b7) b9).mono HBU.out.size)⟩
end Go.Proofs.Ytobmdefklgkoiaa
