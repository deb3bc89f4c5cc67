import Derived.Test.YtfdmldbcblddlaaSpecPlain
namespace Go.Proofs.Ytfdmldbcblddlaa
open Go.ChangeShapes Go.WideShapes Go.ChangeAt Go.RowKit
set_option linter.unusedSimpArgs false

theorem plainR_len (l : List Int) (b a lv : Int) : (plainR l b a lv).length ≤ l.length := by
  unfold plainR; split
  · rw [plainL_len]; exact Nat.le_refl _
  · simp
theorem plainR_no {l : List Int} {b a lv : Int} (h : ¬ (clsOk (fn l) l.length = true ∧ sideB b = true ∧ sideB a = true ∧ lvB lv = true)) : plainR l b a lv = [] := by
  unfold plainR; rw [if_neg h]
theorem plainR_yes {l : List Int} {b a lv : Int} (h : clsOk (fn l) l.length = true ∧ sideB b = true ∧ sideB a = true ∧ lvB lv = true) : plainR l b a lv = plainL l b a lv := by
  unfold plainR; rw [if_pos h]
theorem lvB_out {lv : Int} (h : lvB lv = true) : 0 ≤ lv ∧ lv ≤ 22 := by simpa [lvB] using h

set_option maxHeartbeats 4000000 in
theorem implPlain (v : Value) (l : List Int) (before after lv : Int) (w : World) (a0 : Option Addr) (cap0 : Nat) (hva : v = .slice a0 l.length cap0) (hv : Arg w v l) (hl : l.length ≤ 1048576) :
    Calls Try.prog 23 #[v, .int .i64 before, .int .i64 after, .int .i64 lv] w fun e w' => (∃ v', e = .returned v' ∧ OwnI w' w.heap.size v' (plainR l before after lv)) ∧ Below w.heap.size w w' := by
  subst hva
  by_cases hc : clsOk (fn l) l.length = true
  · by_cases h1 : sideB before = true
    · by_cases h2 : sideB after = true
      · by_cases h3 : lvB lv = true
        · rw [plainR_yes ⟨hc, h1, h2, h3⟩]
          obtain ⟨h4, h5⟩ := lvB_out h3
          by_cases h0 : l = []
          · subst h0
            have HC : Hid _ := hc
            have H1 : Hid _ := h1
            have H2 : Hid _ := h2
            clear hc h1 h2 h3
            go_enter Try.func23, Try.ntmps23
            go_wp2_with fail
            refine (implCls _ [] 0 w rfl hv (by omega)).mono ?_
            rintro e w1 ⟨rfl, rfl⟩
            go_wp2_with fail
            refine (implSide? _ _).mono ?_
            rintro e w2 ⟨rfl, rfl⟩
            rw [H1.out]
            go_wp2_with fail
            refine (implSide? _ _).mono ?_
            rintro e w3 ⟨rfl, rfl⟩
            rw [H2.out]
            go_wp2_with fail
            refine (clone_any _ [] _ hv (by simp)).mono ?_
            rintro e w4 ⟨⟨v4, rfl, o4⟩, b4⟩
            rcases o4.forms with ⟨rfl, _⟩ | ⟨g, cp, rfl, _⟩
            · go_wp2_with fail
              go_rounds 1
              go_ret
              exact ⟨⟨_, rfl, OwnI.nil _ _⟩, b4⟩
            · go_wp2_with fail
              go_rounds 1
              go_ret
              exact ⟨⟨_, rfl, o4⟩, b4⟩
          · rcases hv with ⟨_, _, _, e⟩ | ⟨b, off, cap, e, hb, hlc, hcm, hat⟩
            · exact absurd e h0
            · cases e
              exact implPlain_row b off cap0 l.length l before after lv w rfl (by cases l with | nil => exact absurd rfl h0 | cons => simp) (clsOk_out hc).1 hlc hcm hb hat hc h1 h2 h4 h5
        · have h3' : lvB lv = false := by simpa using h3
          rw [plainR_no (fun h => h3 h.2.2.2)]
          have HC : Hid _ := hc
          have H1 : Hid _ := h1
          have H2 : Hid _ := h2
          have hlv : lv < 0 ∨ 22 < lv := by
            unfold lvB at h3'; rw [decide_eq_false_iff_not] at h3'; omega
          clear hc h1 h2 h3 h3'
          rcases hlv with hlv | hlv
          · go_enter Try.func23, Try.ntmps23
            go_wp2_with fail
            refine (implCls _ l l.length w rfl hv (by omega)).mono ?_
            rintro e w1 ⟨rfl, rfl⟩
            rw [HC.out]
            go_wp2_with fail
            refine (implSide? _ _).mono ?_
            rintro e w2 ⟨rfl, rfl⟩
            rw [H1.out]
            go_wp2_with fail
            refine (implSide? _ _).mono ?_
            rintro e w3 ⟨rfl, rfl⟩
            rw [H2.out]
            go_wp2_with fail
            go_ret
            exact ⟨⟨_, rfl, OwnI.nil _ _⟩, Below.refl _ _⟩
          · have hlv0 : 0 ≤ lv := by omega
            go_enter Try.func23, Try.ntmps23
            go_wp2_with fail
            refine (implCls _ l l.length w rfl hv (by omega)).mono ?_
            rintro e w1 ⟨rfl, rfl⟩
            rw [HC.out]
            go_wp2_with fail
            refine (implSide? _ _).mono ?_
            rintro e w2 ⟨rfl, rfl⟩
            rw [H1.out]
            go_wp2_with fail
            refine (implSide? _ _).mono ?_
            rintro e w3 ⟨rfl, rfl⟩
            rw [H2.out]
            go_wp2_with fail
            go_ret
            exact ⟨⟨_, rfl, OwnI.nil _ _⟩, Below.refl _ _⟩
      · have h2' : sideB after = false := by simpa using h2
        rw [plainR_no (fun h => h2 h.2.2.1)]
        have HC : Hid _ := hc
        have H1 : Hid _ := h1
        have H2 : Hid _ := h2'
        clear hc h1 h2 h2'
        go_enter Try.func23, Try.ntmps23
        go_wp2_with fail
        refine (implCls _ l l.length w rfl hv (by omega)).mono ?_
        rintro e w1 ⟨rfl, rfl⟩
        rw [HC.out]
        go_wp2_with fail
        refine (implSide? _ _).mono ?_
        rintro e w2 ⟨rfl, rfl⟩
        rw [H1.out]
        go_wp2_with fail
        refine (implSide? _ _).mono ?_
        rintro e w3 ⟨rfl, rfl⟩
        rw [H2.out]
        go_wp2_with fail
        go_ret
        exact ⟨⟨_, rfl, OwnI.nil _ _⟩, Below.refl _ _⟩
    · have h1' : sideB before = false := by simpa using h1
      rw [plainR_no (fun h => h1 h.2.1)]
      have HC : Hid _ := hc
      have H1 : Hid _ := h1'
      clear hc h1 h1'
      go_enter Try.func23, Try.ntmps23
      go_wp2_with fail
      refine (implCls _ l l.length w rfl hv (by omega)).mono ?_
      rintro e w1 ⟨rfl, rfl⟩
      rw [HC.out]
      go_wp2_with fail
      refine (implSide? _ _).mono ?_
      rintro e w2 ⟨rfl, rfl⟩
      rw [H1.out]
      go_wp2_with fail
      go_ret
      exact ⟨⟨_, rfl, OwnI.nil _ _⟩, Below.refl _ _⟩
  · have hc' : clsOk (fn l) l.length = false := by simpa using hc
    rw [plainR_no (fun h => hc h.1)]
    have HC : Hid _ := hc'
    clear hc hc'
    go_enter Try.func23, Try.ntmps23
    go_wp2_with fail
    refine (implCls _ l l.length w rfl hv (by omega)).mono ?_
    rintro e w1 ⟨rfl, rfl⟩
    rw [HC.out]
    go_wp2_with fail
    go_ret
    exact ⟨⟨_, rfl, OwnI.nil _ _⟩, Below.refl _ _⟩

set_option maxHeartbeats 2000000 in
theorem specPlain_nil (a : Option Addr) (cap : Nat) (before after lv : Int) (w : World) :
    Calls Try.prog 49 #[.slice a 0 cap, .int .i64 before, .int .i64 after, .int .i64 lv] w fun e w' => (∃ v', e = .returned v' ∧ OwnI w' w.heap.size v' []) ∧ Below w.heap.size w w' := by
  have ho := own_empty w w.heap.size 3 (Nat.le_refl _) rfl
  cases a with
  | none =>
    go_enter Try.func49, Try.ntmps49
    go_wp2
    go_rounds 1
    go_ret
    exact ⟨⟨_, rfl, ho⟩, by go_grown⟩
  | some ad =>
    go_enter Try.func49, Try.ntmps49
    go_wp2
    go_rounds 1
    go_ret
    exact ⟨⟨_, rfl, ho⟩, by go_grown⟩

set_option maxHeartbeats 4000000 in
theorem specPlain (v : Value) (l : List Int) (before after lv : Int) (w : World) (a0 : Option Addr) (cap0 : Nat) (hva : v = .slice a0 l.length cap0) (hv : Arg w v l) (hl : l.length ≤ 1048576) :
    Calls Try.prog 22 #[v, .int .i64 before, .int .i64 after, .int .i64 lv] w fun e w' => (∃ v', e = .returned v' ∧ OwnI w' w.heap.size v' (plainR l before after lv)) ∧ Below w.heap.size w w' := by
  subst hva
  have ho := own_empty w w.heap.size 3 (Nat.le_refl _) rfl
  have hlvb : inB lv 0 22 = lvB lv := rfl
  have HV : Hid _ := hlvb
  clear hlvb
  obtain ⟨q, hq⟩ : ∃ q, clsOk (fn l) l.length = q := ⟨_, rfl⟩
  obtain ⟨q1, hq1⟩ : ∃ q, sideB before = q := ⟨_, rfl⟩
  obtain ⟨q2, hq2⟩ : ∃ q, sideB after = q := ⟨_, rfl⟩
  obtain ⟨q3, hq3⟩ : ∃ q, lvB lv = q := ⟨_, rfl⟩
  have HQ : Hid _ := hq
  have HQ1 : Hid _ := hq1
  have HQ2 : Hid _ := hq2
  have HQ3 : Hid _ := hq3
  by_cases hall : q = true ∧ q1 = true ∧ q2 = true ∧ q3 = true
  · obtain ⟨e0, e1, e2, e3⟩ := hall
    subst e0 e1 e2 e3
    rw [plainR_yes ⟨hq, hq1, hq2, hq3⟩]
    obtain ⟨h4, h5⟩ := lvB_out hq3
    have h80 := (clsOk_out hq).1
    clear hq hq1 hq2 hq3
    go_enter Try.func22, Try.ntmps22
    go_wp2_with fail
    refine (specCls _ l l.length w rfl hv (by omega)).mono ?_
    rintro e w1 ⟨rfl, rfl⟩
    rw [HQ.out]
    go_wp2_with fail
    refine (specSide? _ _).mono ?_
    rintro e w2 ⟨rfl, rfl⟩
    rw [HQ1.out]
    go_wp2_with fail
    refine (specSide? _ _).mono ?_
    rintro e w3 ⟨rfl, rfl⟩
    rw [HQ2.out]
    go_wp2_with fail
    refine (specIn _ _ _ _).mono ?_
    rintro e w4 ⟨rfl, rfl⟩
    rw [HV.out, HQ3.out]
    go_wp2_with fail
    by_cases h0 : l = []
    · subst h0
      refine (specPlain_nil a0 cap0 before after lv _).mono ?_
      rintro e w5 ⟨⟨v5, rfl, o5⟩, b5⟩
      go_wp2_with fail
      go_ret
      exact ⟨⟨_, rfl, o5⟩, b5⟩
    · rcases hv with ⟨_, _, _, e⟩ | ⟨b, off, cap, e, hb, hlc, hcm, hat⟩
      · exact absurd e h0
      · cases e
        refine (specPlain_row b off cap0 l.length l before after lv _ rfl (by cases l with | nil => exact absurd rfl h0 | cons => simp) h80 hb hat HQ1 HQ2 h4 h5).mono ?_
        rintro e w5 ⟨⟨v5, rfl, o5⟩, b5⟩
        go_wp2_with fail
        go_ret
        exact ⟨⟨_, rfl, o5⟩, b5⟩
  · rw [plainR_no (by rw [hq, hq1, hq2, hq3]; exact hall)]
    clear hq hq1 hq2 hq3
    cases q with
    | false =>
      go_enter Try.func22, Try.ntmps22
      go_wp2_with fail
      refine (specCls _ l l.length w rfl hv (by omega)).mono ?_
      rintro e w1 ⟨rfl, rfl⟩
      rw [HQ.out]
      go_wp2_with fail
      go_ret
      exact ⟨⟨_, rfl, ho⟩, by go_grown⟩
    | true =>
    cases q1 with
    | false =>
      go_enter Try.func22, Try.ntmps22
      go_wp2_with fail
      refine (specCls _ l l.length w rfl hv (by omega)).mono ?_
      rintro e w1 ⟨rfl, rfl⟩
      rw [HQ.out]
      go_wp2_with fail
      refine (specSide? _ _).mono ?_
      rintro e w2 ⟨rfl, rfl⟩
      rw [HQ1.out]
      go_wp2_with fail
      go_ret
      exact ⟨⟨_, rfl, ho⟩, by go_grown⟩
    | true =>
    cases q2 with
    | false =>
      go_enter Try.func22, Try.ntmps22
      go_wp2_with fail
      refine (specCls _ l l.length w rfl hv (by omega)).mono ?_
      rintro e w1 ⟨rfl, rfl⟩
      rw [HQ.out]
      go_wp2_with fail
      refine (specSide? _ _).mono ?_
      rintro e w2 ⟨rfl, rfl⟩
      rw [HQ1.out]
      go_wp2_with fail
      refine (specSide? _ _).mono ?_
      rintro e w3 ⟨rfl, rfl⟩
      rw [HQ2.out]
      go_wp2_with fail
      go_ret
      exact ⟨⟨_, rfl, ho⟩, by go_grown⟩
    | true =>
    cases q3 with
    | true => exact absurd ⟨rfl, rfl, rfl, rfl⟩ hall
    | false =>
      go_enter Try.func22, Try.ntmps22
      go_wp2_with fail
      refine (specCls _ l l.length w rfl hv (by omega)).mono ?_
      rintro e w1 ⟨rfl, rfl⟩
      rw [HQ.out]
      go_wp2_with fail
      refine (specSide? _ _).mono ?_
      rintro e w2 ⟨rfl, rfl⟩
      rw [HQ1.out]
      go_wp2_with fail
      refine (specSide? _ _).mono ?_
      rintro e w3 ⟨rfl, rfl⟩
      rw [HQ2.out]
      go_wp2_with fail
      refine (specIn _ _ _ _).mono ?_
      rintro e w4 ⟨rfl, rfl⟩
      rw [HV.out, HQ3.out]
      go_wp2_with fail
      go_ret
      exact ⟨⟨_, rfl, ho⟩, by go_grown⟩
end Go.Proofs.Ytfdmldbcblddlaa
