import Derived.Test.YtbjcdogbhnadkacDrawLv2
import Derived.Test.YtbjcdogbhnadkacRunTop
import Derived.Test.YtbjcdogbhnadkacRunFacts
import Derived.Test.YtbjcdogbhnadkacGrow
namespace Go.Proofs.Ytbjcdogbhnadkac
open Go.ChangeShapes Go.WideShapes Go.ChangeAt Go.RowKit
set_option linter.unusedSimpArgs false

set_option maxHeartbeats 1000000 in
theorem drawRuns (a : Option Addr) (len cap : Nat) (w : World) (h : Bytes w a len cap) :
    Calls Try.prog 25 #[.slice a len cap] w fun e w' => (∃ v l, e = .returned v ∧ OwnI w' w.heap.size v l ∧ l.length ≤ 80) ∧ Below w.heap.size w w' := by
  go_enter Try.func25, Try.ntmps25
  go_wp2_with fail
  refine (open_any a len cap w h).mono ?_
  rintro e w1 ⟨rfl, hR, hB⟩
  have hlt := hR.lt
  have hsz := hB.size
  go_wp2_with fail
  refine (levels_any w.heap.size 0 w1 hR (by omega)).mono ?_
  rintro e w2 ⟨⟨v, l, rfl, hown, hl⟩, p', hp', hW⟩
  go_wp2_with fail
  go_ret
  exact ⟨⟨v, l, rfl, hown.mono (by omega), hl⟩, hB.trans (hW.below (Nat.le_refl _) hlt)⟩

set_option maxRecDepth 10000 in
set_option maxHeartbeats 8000000 in
theorem runsLaw (a : Option Addr) (len cap : Nat) (w : World) (h : Bytes w a len cap) :
    Calls Try.prog 8 #[.slice a len cap] w fun e w' => e = .returned (.bool true) ∧ Below w.heap.size w w' := by
  by_cases hbig : 1048576 < len
  · have hbig2 : (1048576 : Int) < (len : Int) := by omega
    go_enter Try.func8, Try.ntmps8
    go_wp2_with fail
    go_ret
    exact ⟨rfl, Below.refl _ _⟩
  · have hl2 : (len : Int) ≤ 1048576 := by omega
    go_enter Try.func8, Try.ntmps8
    go_wp2_with fail
    refine (drawRuns a len cap w h).mono ?_
    rintro e w1 ⟨⟨v, l, rfl, o1, hlen⟩, b1⟩
    have hrl := runsR_len l
    obtain ⟨av, n, cv, rfl, hn⟩ := o1.slice
    have HN : Hid _ := hn
    have hn80 : n ≤ 80 := by omega
    have HL4 : Hid (l.length ≤ 4194304) := show l.length ≤ 4194304 by omega
    clear hn hlen
    go_wp2_with fail
    refine (implRuns _ l _ o1.arg HL4.out).mono ?_
    rintro e w2 ⟨⟨vr, m, rfl, or2⟩, b2⟩
    have o2 := o1.below b2
    have B2 := bstep b1 b2
    go_wp2_with fail
    refine (specRuns _ l _ o2.arg HL4.out).mono ?_
    rintro e w3 ⟨⟨vw, m3, rfl, ow⟩, b3⟩
    have o3 := o2.below b3
    have or3 := or2.below b3
    have B3 := bstep B2 b3
    have hm3 : m3 = m := by have := or3.len; have := ow.len; omega
    subst hm3
    have hm100 : m3 ≤ 81 := by have := or3.len; omega
    clear o1 o2 or2 B2 b1 b2 b3
    by_cases hz : m3 = 0
    · subst hz
      rcases or3.forms with ⟨rfl, _⟩ | ⟨g, cp, rfl, _⟩
      all_goals
        rcases ow.forms with ⟨rfl, _⟩ | ⟨g2, cp2, rfl, _⟩
        all_goals
          go_wp2_with fail
          go_rounds 1
          go_ret
          exact ⟨rfl, B3⟩
    · have hr : runsR l = flat (fn l) n ∧ 1 ≤ n := by
        have := or3.len
        unfold runsR at this ⊢
        split
        · rename_i c
          refine ⟨by rw [HN.out], ?_⟩
          have := c.2; have := HN.out; omega
        · rename_i c
          rw [if_neg c] at this; simp at this; omega
      obtain ⟨hr1, hn1⟩ := hr
      have HR : Hid (∀ i, i < m3 → ∃ a t : Nat, fn (runsR l) (i * 3) = (a : Int) ∧ fn (runsR l) (i * 3 + 1) = (t : Int) ∧ a < t ∧ t ≤ n ∧ (i = 0 → a = 0) ∧ (∀ j, i = j + 1 → fn (runsR l) (j * 3 + 1) = (a : Int) ∧ fn (runsR l) (j * 3 + 2) ≠ fn (runsR l) (i * 3 + 2)) ∧ (i + 1 = m3 → t = n) ∧ ∀ p, a ≤ p → p < t → 0 ≤ fn l p → fn l p = fn (runsR l) (i * 3 + 2)) := by
        show ∀ i, i < m3 → _
        intro i hi
        have hl := or3.len
        rw [hr1] at hl ⊢
        exact run_at hn1 hl i hi
      clear hr1 hrl
      generalize runsR l = G at or3 ow HR
      rcases or3.forms with ⟨_, e⟩ | ⟨g, cp, rfl, _, hgw, hlc, hcm⟩
      · exact absurd e hz
      rcases ow.forms with ⟨_, e⟩ | ⟨g2, cp2, rfl, _, hgw2, hlc2, hcm2⟩
      · exact absurd e hz
      rcases o3.forms with ⟨e, _⟩ | ⟨gl, cl, e, _, hgl, _, _, _⟩
      · simp only [Value.slice.injEq] at e; omega
      simp only [Value.slice.injEq] at e
      obtain ⟨rfl, -, rfl⟩ := e
      have hmz : ((m3 : Int) == 0) = false := by simp; omega
      go_wp2_with fail
      go_loopw [6, 7] (fun q i wr => ∃ (k s : Nat), k ≤ m3 ∧ i = .int .i64 k ∧ q = .int .i64 s ∧ Below w3.heap.size w3 wr ∧ Hid ((k = 0 → s = 0) ∧ ∀ j, k = j + 1 → fn G (j * 3 + 1) = (s : Int))) (fun _ i _ => m3 - (intOf i).toNat)
      case atStart => exact ⟨0, 0, Nat.zero_le _, rfl, rfl, Below.refl _ _, fun _ => rfl, fun j hj => by omega⟩
      case round =>
        obtain ⟨k, s, hk, rfl, rfl, hbel, hst⟩ := hrel
        by_cases hlt : k < m3
        · obtain ⟨s', t, e0, e1, hst2, htn, hf, hp, hend, hins⟩ := HR.out k hlt
          have hss : s' = s := by
            by_cases c : k = 0
            · have := hf c; have := hst.out.1 c; omega
            · obtain ⟨j, rfl⟩ : ∃ j, k = j + 1 := ⟨k - 1, by omega⟩
              have := (hp j rfl).1; have := hst.out.2 j rfl; omega
          subst hss
          obtain ⟨L, hL⟩ : ∃ L, fn G (k * 3 + 2) = L := ⟨_, rfl⟩
          rw [hL] at hp hins
          have HI : Hid _ := hins
          have c0 := (or3.below hbel).cell (k * 3) (by omega)
          have c1 := (or3.below hbel).cell (k * 3 + 1) (by omega)
          have c2 := (or3.below hbel).cell (k * 3 + 2) (by omega)
          have d0 := (ow.below hbel).cell (k * 3) (by omega)
          have d1 := (ow.below hbel).cell (k * 3 + 1) (by omega)
          have d2 := (ow.below hbel).cell (k * 3 + 2) (by omega)
          rw [e0] at c0 d0
          have HE1 : Hid _ := e1
          have HE2 : Hid _ := hL
          rw [e1] at c1 d1
          rw [hL] at c2 d2
          have hki : (k : Int) < (m3 : Int) := by omega
          have hts : decide ((t : Int) ≤ (s' : Int)) = false := by rw [decide_eq_false_iff_not]; omega
          have hts1 : decide (t ≤ s') = false := by rw [decide_eq_false_iff_not]; omega
          clear e0 e1 hL hins hf hend
          by_cases hk0 : k = 0
          · have HK : Hid _ := hk0
            have hki0 : decide ((0 : Int) < (k : Int)) = false := by rw [decide_eq_false_iff_not]; omega
            have hki1 : decide (0 < k) = false := by rw [decide_eq_false_iff_not]; omega
            clear hp hk0
            obtain ⟨wo, rfl⟩ : ∃ wo : World, wo = wr := ⟨_, rfl⟩
            go_wp2_with fail
            go_quiet (fail)
            go_wp2_with fail
            go_loopw [8] (fun q wv => ∃ (p : Nat), s' ≤ p ∧ p ≤ t ∧ q = .int .i64 p ∧ Below w3.heap.size w3 wv) (fun q _ => t - (intOf q).toNat)
            case atStart => exact ⟨s', Nat.le_refl _, by omega, rfl, hbel.trans ((below_draws _ _).mono hbel.size)⟩
            case round =>
              obtain ⟨p, hp1, hp2, rfl, hb2⟩ := hrel
              have x1 := (or3.below hb2).cell ((k) * 3 + 1) (by omega)
              have x2 := (or3.below hb2).cell ((k) * 3 + 2) (by omega)
              rw [HE1.out] at x1
              rw [HE2.out] at x2
              by_cases hpt : p < t
              · have hpi : (p : Int) < (n : Int) := by omega
                have hpt2 : (p : Int) < (t : Int) := by omega
                have hcl : wr.cell? ⟨gl, p, none⟩ = some (.int .i64 (fn l p)) := (o3.below hb2).cellN p (by omega)
                by_cases hz0 : 0 ≤ fn l p
                · have hq := HI.out p hp1 hpt hz0
                  rw [hq] at hcl hz0
                  have hd : decide (0 ≤ L) = true := by rw [decide_eq_true_iff]; exact hz0
                  clear hq
                  go_wp2_with fail
                  go_quiet (fail)
                  go_wp2_with fail
                  exact ⟨⟨p + 1, by omega, by omega, by go_num, hb2.trans ((below_draws _ _).mono hb2.size)⟩, by simp only [intOf]; omega⟩
                · have hd : decide (0 ≤ fn l p) = false := by rw [decide_eq_false_iff_not]; exact hz0
                  go_wp2_with fail
                  go_quiet (fail)
                  go_wp2_with fail
                  exact ⟨⟨p + 1, by omega, by omega, by go_num, hb2.trans ((below_draws _ _).mono hb2.size)⟩, by simp only [intOf]; omega⟩
              · have hpt2 : ¬ (p : Int) < (t : Int) := by omega
                go_wp2_with fail
                refine ⟨⟨k + 1, t, by omega, by go_num, rfl, hb2, ⟨fun c => by omega, fun j' hj' => ?_⟩⟩, by simp only [intOf]; omega⟩
                have e : j' = k := by omega
                subst e; exact HE1.out
          · obtain ⟨j, rfl⟩ : ∃ j, k = j + 1 := ⟨k - 1, by omega⟩
            have cp2' := (or3.below hbel).cell (j * 3 + 2) (by omega)
            obtain ⟨L', hL'⟩ : ∃ L', fn G (j * 3 + 2) = L' := ⟨_, rfl⟩
            have hne := (hp j rfl).2
            rw [hL'] at hne cp2'
            have hne2 : (L' == L) = false := by simpa using hne
            have hji : (j : Int) < (m3 : Int) := by omega
            have hki0 : (0 : Int) < ((j + 1 : Nat) : Int) := by omega
            have hki1 : decide (0 < j + 1) = true := by simp
            have hki2 : (0 : Int) < (j : Int) + 1 := by omega
            clear hp hL' hne hk0
            obtain ⟨wo, rfl⟩ : ∃ wo : World, wo = wr := ⟨_, rfl⟩
            go_wp2_with fail
            go_quiet (fail)
            go_wp2_with fail
            clear hne2 hki0 hki1 hki2 hji cp2' c0 c1 c2 d0 d1 d2 hki
            obtain ⟨K, hK⟩ : ∃ K : Nat, j + 1 = K := ⟨_, rfl⟩
            have eK : (j : Int) + 1 = (K : Int) := by omega
            have HX1 : Hid (fn G (K * 3 + 1) = (t : Int)) := by show _ = _; rw [← hK]; exact HE1.out
            have HX2 : Hid (fn G (K * 3 + 2) = L) := by show _ = _; rw [← hK]; exact HE2.out
            have hKm : K < m3 := by omega
            have hKi : (K : Int) < (m3 : Int) := by omega
            rw [hK]
            try rw [eK]
            have hdK : decide ((K : Int) < (m3 : Int)) = true := by rw [decide_eq_true_iff]; exact hKi
            try rw [hdK]
            clear hdK
            have HJK : Hid (j + 1 = K) := hK
            clear hK eK
            go_loopw [8] (fun q wv => ∃ (p : Nat), s' ≤ p ∧ p ≤ t ∧ q = .int .i64 p ∧ Below w3.heap.size w3 wv) (fun q _ => t - (intOf q).toNat)
            case atStart => exact ⟨s', Nat.le_refl _, by omega, rfl, hbel.trans ((below_draws _ _).mono hbel.size)⟩
            case round =>
              obtain ⟨p, hp1, hp2, rfl, hb2⟩ := hrel
              have x1 := (or3.below hb2).cell (K * 3 + 1) (by omega)
              have x2 := (or3.below hb2).cell (K * 3 + 2) (by omega)
              rw [HX1.out] at x1
              rw [HX2.out] at x2
              by_cases hpt : p < t
              · have hpi : (p : Int) < (n : Int) := by omega
                have hpt2 : (p : Int) < (t : Int) := by omega
                have hcl : wr.cell? ⟨gl, p, none⟩ = some (.int .i64 (fn l p)) := (o3.below hb2).cellN p (by omega)
                by_cases hz0 : 0 ≤ fn l p
                · have hq := HI.out p hp1 hpt hz0
                  rw [hq] at hcl hz0
                  have hd : decide (0 ≤ L) = true := by rw [decide_eq_true_iff]; exact hz0
                  clear hq
                  go_wp2_with fail
                  go_quiet (fail)
                  go_wp2_with fail
                  exact ⟨⟨p + 1, by omega, by omega, by go_num, hb2.trans ((below_draws _ _).mono hb2.size)⟩, by simp only [intOf]; omega⟩
                · have hd : decide (0 ≤ fn l p) = false := by rw [decide_eq_false_iff_not]; exact hz0
                  go_wp2_with fail
                  go_quiet (fail)
                  go_wp2_with fail
                  exact ⟨⟨p + 1, by omega, by omega, by go_num, hb2.trans ((below_draws _ _).mono hb2.size)⟩, by simp only [intOf]; omega⟩
              · have hpt2 : ¬ (p : Int) < (t : Int) := by omega
                go_wp2_with fail
                have hkm2 : m3 - (K + 1) < m3 - (j + 1) := by have := HJK.out; omega
                refine ⟨⟨K + 1, t, by omega, by go_num, rfl, hb2, ⟨fun c => by omega, fun j' hj' => ?_⟩⟩, by simp only [intOf]; omega⟩
                have e : j' = K := by omega
                subst e; exact HX1.out
        · have e : k = m3 := by omega
          subst e
          have hsn : s = n := by
            obtain ⟨j, rfl⟩ : ∃ j, k = j + 1 := ⟨k - 1, by omega⟩
            obtain ⟨_, t, _, e1, _, _, _, _, hend, _⟩ := HR.out j (by omega)
            have := hst.out.2 j rfl
            have := hend rfl
            omega
          subst hsn
          go_wp2_with fail
          go_ret
          exact ⟨by simp, B3.trans (hbel.mono B3.size)⟩
end Go.Proofs.Ytbjcdogbhnadkac
