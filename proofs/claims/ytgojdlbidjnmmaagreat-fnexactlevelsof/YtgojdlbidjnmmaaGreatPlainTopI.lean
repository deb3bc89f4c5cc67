import Derived.Test.YtgojdlbidjnmmaaGreatImplPlain
namespace Go.Proofs.YtgojdlbidjnmmaaGreat
open Go.ChangeShapes Go.WideShapes Go.ChangeAt Go.RowKit
set_option linter.unusedSimpArgs false

theorem plainR_len (l : List Int) (b a lv : Int) : (plainR l b a lv).length ≤ l.length := by
  unfold plainR; split
  · rw [plainL_len]; exact Nat.le_refl _
  · simp
theorem plainR_no {l : List Int} {b a lv : Int} (h : ¬ (clsOk (fn l) l.length = true ∧ sideB b = true ∧ sideB a = true ∧ lvB lv = true)) : plainR l b a lv = [] := by
  unfold plainR; rw [if_neg h]
theorem plainR_yes {l : List Int} {b a lv : Int} (h : clsOk (fn l) l.length = true ∧ sideB b = true ∧ sideB a = true ∧ lvB lv = true) : plainR l b a lv = plainL l b a lv := by
  unfold plainR; rw [if_pos h]
theorem lvB_out {lv : Int} (h : lvB lv = true) : 0 ≤ lv ∧ lv ≤ 22 := by simpa [lvB] using h

set_option maxHeartbeats 4000000 in
theorem implPlain (v : Value) (l : List Int) (before after lv : Int) (w : World) (a0 : Option Addr) (cap0 : Nat) (hva : v = .slice a0 l.length cap0) (hv : Arg w v l) (hl : l.length ≤ 1048576) :
    Calls Tryz.prog 69 #[v, .int .i64 before, .int .i64 after, .int .i64 lv] w fun e w' => (∃ v', e = .returned v' ∧ OwnI w' w.heap.size v' (plainR l before after lv)) ∧ Below w.heap.size w w' := by
  subst hva
  by_cases hc : clsOk (fn l) l.length = true
  · by_cases h1 : sideB before = true
    · by_cases h2 : sideB after = true
      · by_cases h3 : lvB lv = true
        · rw [plainR_yes ⟨hc, h1, h2, h3⟩]
          obtain ⟨h4, h5⟩ := lvB_out h3
          by_cases h0 : l = []
          · subst h0
            have HC : Hid _ := hc
            have H1 : Hid _ := h1
            have H2 : Hid _ := h2
            clear hc h1 h2 h3
            go_enter Tryz.func69, Tryz.ntmps69
            go_wp2_with fail
            refine (implCls _ [] 0 w rfl hv (by omega)).mono ?_
            rintro e w1 ⟨rfl, rfl⟩
            go_wp2_with fail
            refine (implSide? _ _).mono ?_
            rintro e w2 ⟨rfl, rfl⟩
            rw [H1.out]
            go_wp2_with fail
            refine (implSide? _ _).mono ?_
            rintro e w3 ⟨rfl, rfl⟩
            rw [H2.out]
            go_wp2_with fail
            refine (clone_any _ [] _ hv (by simp)).mono ?_
            rintro e w4 ⟨⟨v4, rfl, o4⟩, b4⟩
            rcases o4.forms with ⟨rfl, _⟩ | ⟨g, cp, rfl, _⟩
            · go_wp2_with fail
              go_rounds 1
              go_ret
              exact ⟨⟨_, rfl, OwnI.nil _ _⟩, b4⟩
            · go_wp2_with fail
              go_rounds 1
              go_ret
              exact ⟨⟨_, rfl, o4⟩, b4⟩
          · rcases hv with ⟨_, _, _, e⟩ | ⟨b, off, cap, e, hb, hlc, hcm, hat⟩
            · exact absurd e h0
            · cases e
              exact implPlain_row b off cap0 l.length l before after lv w rfl (by cases l with | nil => exact absurd rfl h0 | cons => simp) (clsOk_out hc).1 hlc hcm hb hat hc h1 h2 h4 h5
        · have h3' : lvB lv = false := by simpa using h3
          rw [plainR_no (fun h => h3 h.2.2.2)]
          have HC : Hid _ := hc
          have H1 : Hid _ := h1
          have H2 : Hid _ := h2
          have hlv : lv < 0 ∨ 22 < lv := by
            unfold lvB at h3'; rw [decide_eq_false_iff_not] at h3'; omega
          clear hc h1 h2 h3 h3'
          rcases hlv with hlv | hlv
          · go_enter Tryz.func69, Tryz.ntmps69
            go_wp2_with fail
            refine (implCls _ l l.length w rfl hv (by omega)).mono ?_
            rintro e w1 ⟨rfl, rfl⟩
            rw [HC.out]
            go_wp2_with fail
            refine (implSide? _ _).mono ?_
            rintro e w2 ⟨rfl, rfl⟩
            rw [H1.out]
            go_wp2_with fail
            refine (implSide? _ _).mono ?_
            rintro e w3 ⟨rfl, rfl⟩
            rw [H2.out]
            go_wp2_with fail
            go_ret
            exact ⟨⟨_, rfl, OwnI.nil _ _⟩, Below.refl _ _⟩
          · have hlv0 : 0 ≤ lv := by omega
            go_enter Tryz.func69, Tryz.ntmps69
            go_wp2_with fail
            refine (implCls _ l l.length w rfl hv (by omega)).mono ?_
            rintro e w1 ⟨rfl, rfl⟩
            rw [HC.out]
            go_wp2_with fail
            refine (implSide? _ _).mono ?_
            rintro e w2 ⟨rfl, rfl⟩
            rw [H1.out]
            go_wp2_with fail
            refine (implSide? _ _).mono ?_
            rintro e w3 ⟨rfl, rfl⟩
            rw [H2.out]
            go_wp2_with fail
            go_ret
            exact ⟨⟨_, rfl, OwnI.nil _ _⟩, Below.refl _ _⟩
      · have h2' : sideB after = false := by simpa using h2
        rw [plainR_no (fun h => h2 h.2.2.1)]
        have HC : Hid _ := hc
        have H1 : Hid _ := h1
        have H2 : Hid _ := h2'
        clear hc h1 h2 h2'
        go_enter Tryz.func69, Tryz.ntmps69
        go_wp2_with fail
        refine (implCls _ l l.length w rfl hv (by omega)).mono ?_
        rintro e w1 ⟨rfl, rfl⟩
        rw [HC.out]
        go_wp2_with fail
        refine (implSide? _ _).mono ?_
        rintro e w2 ⟨rfl, rfl⟩
        rw [H1.out]
        go_wp2_with fail
        refine (implSide? _ _).mono ?_
        rintro e w3 ⟨rfl, rfl⟩
        rw [H2.out]
        go_wp2_with fail
        go_ret
        exact ⟨⟨_, rfl, OwnI.nil _ _⟩, Below.refl _ _⟩
    · have h1' : sideB before = false := by simpa using h1
      rw [plainR_no (fun h => h1 h.2.1)]
      have HC : Hid _ := hc
      have H1 : Hid _ := h1'
      clear hc h1 h1'
      go_enter Tryz.func69, Tryz.ntmps69
      go_wp2_with fail
      refine (implCls _ l l.length w rfl hv (by omega)).mono ?_
      rintro e w1 ⟨rfl, rfl⟩
      rw [HC.out]
      go_wp2_with fail
      refine (implSide? _ _).mono ?_
      rintro e w2 ⟨rfl, rfl⟩
      rw [H1.out]
      go_wp2_with fail
      go_ret
      exact ⟨⟨_, rfl, OwnI.nil _ _⟩, Below.refl _ _⟩
  · have hc' : clsOk (fn l) l.length = false := by simpa using hc
    rw [plainR_no (fun h => hc h.1)]
    have HC : Hid _ := hc'
    clear hc hc'
    go_enter Tryz.func69, Tryz.ntmps69
    go_wp2_with fail
    refine (implCls _ l l.length w rfl hv (by omega)).mono ?_
    rintro e w1 ⟨rfl, rfl⟩
    rw [HC.out]
    go_wp2_with fail
    go_ret
    exact ⟨⟨_, rfl, OwnI.nil _ _⟩, Below.refl _ _⟩

end Go.Proofs.YtgojdlbidjnmmaaGreat
