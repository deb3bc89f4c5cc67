import Derived.Test.YteefeciiaekdlaaScrP
import Derived.Test.YteefeciiaekdlaaBytesRow
namespace Go.Proofs.Yteefeciiaekdlaa
open Go.ChangeShapes Go.WideShapes Go.ChangeAt Go.RowKit
set_option linter.unusedSimpArgs false

set_option maxRecDepth 10000 in
set_option maxHeartbeats 4000000 in
theorem scriptsLaw (a : Option Addr) (len cap : Nat) (w : World) (h : Bytes w a len cap) :
    Calls Try.prog 3 #[.slice a len cap] w fun e w' => e = .returned (.bool true) ∧ Below w.heap.size w w' := by
  by_cases hbig : 1048576 < len
  · have hbig2 : (1048576 : Int) < (len : Int) := by omega
    go_enter Try.func3, Try.ntmps3
    go_wp2_with fail
    go_ret
    exact ⟨rfl, Below.refl _ _⟩
  · have hbig2 : (len : Int) ≤ 1048576 := by omega
    go_enter Try.func3, Try.ntmps3
    go_wp2_with fail
    refine (drawScr a len cap w h).mono ?_
    rintro e w1 ⟨⟨v, l, rfl, ol, hlen⟩, b1⟩
    go_wp2_with fail
    refine (implScripts _ l _ ol.arg (by omega)).mono ?_
    rintro e w2 ⟨⟨vs, rfl, os⟩, b2⟩
    go_wp2_with fail
    refine (specScriptsOf _ l _ (ol.below b2).arg (by omega)).mono ?_
    rintro e w3 ⟨⟨vw, rfl, ow⟩, b3⟩
    have hc80 := scripts_len l
    go_wp2_with fail
    refine (wcInts_yes _ _ (scripts l) _ (os.below b3).arg ow.arg (by omega)).mono ?_
    rintro e w4 ⟨rfl, b4⟩
    have hB4 := bstep (bstep (bstep b1 b2) b3) b4
    have ol4 := ((ol.below b2).below b3).below b4
    have os4 := (os.below b3).below b4
    clear ol os ow
    obtain ⟨m, hm⟩ : ∃ m, (scripts l).length = m := ⟨_, rfl⟩
    have HM : Hid ((scripts l).length = m) := hm
    obtain ⟨sa, cs, hvs⟩ : ∃ sa cs, vs = .slice sa m cs := by
      rcases os4.forms with ⟨rfl, hs0⟩ | ⟨g, cp, rfl, _⟩
      · rw [hs0] at hm; simp at hm; subst hm; exact ⟨_, _, rfl⟩
      · rw [hm]; exact ⟨_, _, rfl⟩
    subst hvs
    rw [hm] at hc80
    clear hm
    by_cases hm0 : m = 0
    · subst hm0
      go_wp2_with fail
      refine (specScriptsOf _ l _ ol4.arg (by omega)).mono ?_
      rintro e w5 ⟨⟨vw5, rfl, ow5⟩, b5⟩
      go_wp2_with fail
      refine (wcInts_yes _ _ (scripts l) _ (os4.below b5).arg ow5.arg (by rw [HM.out]; omega)).mono ?_
      rintro e w6 ⟨rfl, b6⟩
      go_wp2_with fail
      go_ret
      exact ⟨rfl, bstep (bstep hB4 b5) b6⟩
    · have hok : okF (fn l) l.length = true := by
        cases hok : okF (fn l) l.length
        · have := HM.out; rw [scripts_bad hok] at this; simp at this; omega
        · rfl
      have hmb : ((m : Int) == 0) = false := by simp; omega
      have hn : l.length = m := by have := HM.out; rwa [scripts_ok hok, scrOut_len] at this
      rw [hn] at hok
      have HF : Hid (∀ k, k < m → (scr (fn l k) ≠ 0 → fn (scripts l) k = scr (fn l k)) ∧ (0 < k → scr (fn l k) = 0 → mate (fn l k) = 0 → fn (scripts l) k = fn (scripts l) (k - 1)) ∧ ((anyS (fn l) m == (fn (scripts l) k == 0)) = false)) := fun k hk => scr_facts hn hok k hk
      obtain ⟨gs, rfl⟩ : ∃ g, sa = some ⟨g, 0, none⟩ := by
        rcases os4.forms with ⟨hh, _⟩ | ⟨g, cp, hh, _⟩
        · simp only [Value.slice.injEq] at hh; omega
        · simp only [Value.slice.injEq] at hh; exact ⟨g, hh.1⟩
      obtain ⟨gl, cl, rfl⟩ : ∃ gl cl, v = .slice (some ⟨gl, 0, none⟩) m cl := by
        rcases ol4.forms with ⟨rfl, hs0⟩ | ⟨g, cp, rfl, _⟩
        · rw [hs0] at hn; simp at hn; omega
        · rw [hn]; exact ⟨_, _, rfl⟩
      have HCS : Hid (∀ w' j, Below w4.heap.size w4 w' → j < m → w'.cell? ⟨gs, j, none⟩ = some (.int .i64 (fn (scripts l) j))) := fun w' j hb hj => (os4.below hb).cellN j hj
      have HCL : Hid (∀ w' j, Below w4.heap.size w4 w' → j < m → w'.cell? ⟨gl, j, none⟩ = some (.int .i64 (fn l j))) := fun w' j hb hj => (ol4.below hb).cellN j hj
      clear hn hok hm0
      go_wp2_with fail
      go_loopw [5, 6] (fun q i wr => ∃ k : Nat, k ≤ m ∧ i = .int .i64 k ∧ q = .bool (anyS (fn l) k) ∧ Below w4.heap.size w4 wr) (fun _ i _ => m - (intOf i).toNat)
      case atStart => exact ⟨0, Nat.zero_le _, rfl, rfl, Below.refl _ _⟩
      case round =>
        obtain ⟨k, hk, rfl, rfl, hbel⟩ := hrel
        by_cases hlt : k < m
        · have hki : (k : Int) < (m : Int) := by omega
          have HAN : Hid (anyS (fn l) (k + 1) = (anyS (fn l) k || (scr (fn l k) != 0))) := rfl
          obtain ⟨f1, f2, _⟩ := HF.out k hlt
          have hcl := HCL.out wr k hbel hlt
          obtain ⟨A, hA⟩ : ∃ A, anyS (fn l) k = A := ⟨_, rfl⟩
          obtain ⟨r, hr⟩ : ∃ r, fn l k = r := ⟨_, rfl⟩
          rw [hr] at f1 f2 hcl HAN
          rw [hA] at HAN ⊢
          clear hA
          go_wp2_with fail
          refine (implScr _ _).mono ?_
          rintro e w5 ⟨rfl, b5⟩
          have B5 := bstep hbel b5
          have hc5 := HCL.out w5 k B5 hlt
          have hs5 := HCS.out w5 k B5 hlt
          rw [hr] at hc5
          clear hr hcl
          by_cases h0 : scr r = 0
          · have hs : (scr r == 0) = true := by simpa using h0
            have hs2 : (scr r != 0) = false := by simpa using h0
            by_cases hk0 : k = 0
            · have hd : decide (0 < k) = false := by simp; omega
              have hd2 : decide ((0 : Int) < (k : Int)) = false := by simp; omega
              clear h0 f1 f2 hk0
              go_wp2_with fail
              go_quiet ((first | (go_at_call 14; exact Calls.quiet_of_same (specScr _ _)) | (go_at_call 15; exact Calls.quiet_of_same (implMate _ _))))
              go_wp2_with fail
              all_goals exact ⟨⟨k + 1, by omega, by go_num, by rw [HAN.out, hs2]; simp; try (first | assumption | exact Bool.eq_false_iff.2 (by assumption)), bstep B5 (below_draws _ _)⟩, by simp only [intOf]; omega⟩
            · obtain ⟨j, rfl⟩ : ∃ j, k = j + 1 := ⟨k - 1, by omega⟩
              have hd : decide (0 < j + 1) = true := by simp
              have hd2 : decide ((0 : Int) < ((j + 1 : Nat) : Int)) = true := by rw [decide_eq_true_eq]; omega
              have hs6 := HCS.out w5 j B5 (by omega)
              by_cases hz : mate r = 0
              · have hz1 : (mate r == 0) = true := by simpa using hz
                have f3 := f2 (by omega) h0 hz
                rw [show j + 1 - 1 = j by omega] at f3
                rw [f3] at hs5
                clear h0 f1 f2 f3 hz
                go_wp2_with fail
                go_quiet ((first | (go_at_call 14; exact Calls.quiet_of_same (specScr _ _)) | (go_at_call 15; exact Calls.quiet_of_same (implMate _ _))))
                go_wp2_with fail
                all_goals exact ⟨⟨j + 1 + 1, by omega, by go_num, by rw [HAN.out, hs2]; simp; try (first | assumption | exact Bool.eq_false_iff.2 (by assumption)), bstep B5 (below_draws _ _)⟩, by simp only [intOf]; omega⟩
              · have hz1 : (mate r == 0) = false := by simpa using hz
                clear h0 f1 f2 hz
                go_wp2_with fail
                go_quiet ((first | (go_at_call 14; exact Calls.quiet_of_same (specScr _ _)) | (go_at_call 15; exact Calls.quiet_of_same (implMate _ _))))
                go_wp2_with fail
                all_goals exact ⟨⟨j + 1 + 1, by omega, by go_num, by rw [HAN.out, hs2]; simp; try (first | assumption | exact Bool.eq_false_iff.2 (by assumption)), bstep B5 (below_draws _ _)⟩, by simp only [intOf]; omega⟩
          · have hs : (scr r == 0) = false := by simpa using h0
            have hs2 : (scr r != 0) = true := by simpa using h0
            have f3 := f1 h0
            rw [f3] at hs5
            by_cases hk0 : k = 0
            · have hd : decide (0 < k) = false := by simp; omega
              have hd2 : decide ((0 : Int) < (k : Int)) = false := by simp; omega
              clear h0 f1 f2 f3 hk0
              go_wp2_with fail
              go_quiet ((first | (go_at_call 14; exact Calls.quiet_of_same (specScr _ _)) | (go_at_call 15; exact Calls.quiet_of_same (implMate _ _))))
              go_wp2_with fail
              all_goals exact ⟨⟨k + 1, by omega, by go_num, by rw [HAN.out, hs2]; simp; try (first | assumption | exact Bool.eq_false_iff.2 (by assumption)), bstep B5 (below_draws _ _)⟩, by simp only [intOf]; omega⟩
            · have hd : decide (0 < k) = true := by simp; omega
              have hd2 : decide ((0 : Int) < (k : Int)) = true := by simp; omega
              clear h0 f1 f2 f3 hk0
              go_wp2_with fail
              go_quiet ((first | (go_at_call 14; exact Calls.quiet_of_same (specScr _ _)) | (go_at_call 15; exact Calls.quiet_of_same (implMate _ _))))
              go_wp2_with fail
              all_goals exact ⟨⟨k + 1, by omega, by go_num, by rw [HAN.out, hs2]; simp; try (first | assumption | exact Bool.eq_false_iff.2 (by assumption)), bstep B5 (below_draws _ _)⟩, by simp only [intOf]; omega⟩
        · have e : k = m := by omega
          subst e
          obtain ⟨A, hA⟩ : ∃ A, anyS (fn l) k = A := ⟨_, rfl⟩
          have HG : Hid (∀ j, j < k → (A == (fn (scripts l) j == 0)) = false) := fun j hj => by rw [← hA]; exact (HF.out j hj).2.2
          rw [hA]
          clear hA
          go_wp2_with fail
          go_loopw [8] (fun i wr' => ∃ j : Nat, j ≤ k ∧ i = .int .i64 j ∧ wr' = wr) (fun i _ => k - (intOf i).toNat)
          case atStart => exact ⟨0, Nat.zero_le _, rfl, rfl⟩
          case round =>
            obtain ⟨j, hj, rfl, rfl⟩ := hrel
            by_cases hlt2 : j < k
            · have hji : (j : Int) < (k : Int) := by omega
              have hc := HCS.out _ j hbel hlt2
              have hg := HG.out j hlt2
              go_wp2_with fail
              go_roundw
              case rel => exact ⟨j + 1, by omega, by go_num, trivial⟩
              case measure => simp only [intOf]; omega
            · have e : j = k := by omega
              subst e
              go_wp2_with fail
              go_ret
              exact ⟨rfl, bstep hB4 hbel⟩
end Go.Proofs.Yteefeciiaekdlaa
