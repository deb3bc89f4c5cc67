import Derived.Test.YtgojdlbidjnmmaaGreatWeakS1
namespace Go.Proofs.YtgojdlbidjnmmaaGreat
open Go.ChangeShapes Go.WideShapes Go.ChangeAt Go.RowKit
set_option linter.unusedSimpArgs false

/-- Signs beside figures: the row is done up to t, and what is done ahead of the place is figures. -/
def Beside (w wr : World) (B g n cp f : Nat) (z : Nat → Int) : Prop :=
  ∃ t, f ≤ t ∧ t ≤ n ∧ Ruling w wr B g n cp t (m5 z n) z ∧ ∀ j, f ≤ j → j < t → m5 z n j = 4

set_option maxRecDepth 10000 in
set_option maxHeartbeats 4000000 in
theorem specR5 (g n cp B : Nat) (l : List Int) (w : World) (hn : Hid (l.length = n)) (hv : OwnI w B (.slice (some ⟨g, 0, none⟩) n cp) l) (hl : n ≤ 80) :
    Calls Tryz.prog 125 #[.slice (some ⟨g, 0, none⟩) n cp] w fun e w' => e = .returned (.tuple #[]) ∧ Ruled w w' B g n cp (r5 l) := by
  have HR : Hid (r5 l = mkL n (m5 (fn l) n)) := by show _ = _; unfold r5; rw [hn.out]
  rw [HR.out]
  have HS : Hid (Ruling w w B g n cp 0 (m5 (fn l) n) (fn l)) := Ruling.start hv
  go_enter Tryz.func125, Tryz.ntmps125
  go_wp2
  go_loopw [2] (fun i wr => ∃ f : Nat, f ≤ n ∧ i = .int .i64 f ∧ Hid (Beside w wr B g n cp f (fn l))) (fun i _ => n - (intOf i).toNat)
  case atStart => exact ⟨0, Nat.zero_le _, rfl, ⟨0, Nat.le_refl _, Nat.zero_le _, HS.out, fun j h1 h2 => by omega⟩⟩
  case round =>
    obtain ⟨f, hf, rfl, hbs⟩ := hrel
    obtain ⟨wo, rfl⟩ : ∃ wo : World, wo = wr := ⟨_, rfl⟩
    obtain ⟨t0, h0a, h0b, h0c, h0d⟩ := hbs.out
    by_cases hlt : f < n
    · have hfi : (f : Int) < (n : Int) := by omega
      by_cases hin : f < t0
      · have c := h0c.done (j := f) hin hlt
        rw [h0d f (Nat.le_refl _) hin] at c
        have HN : Hid (Beside w wo B g n cp (f + 1) (fn l)) := ⟨t0, by omega, h0b, h0c, fun j h1 h2 => h0d j (by omega) h2⟩
        clear h0a h0b h0c h0d hbs
        go_wp2
        go_roundw
        case rel => exact ⟨f + 1, by omega, by go_num, HN⟩
        case measure => simp only [intOf]; omega
      · have et : t0 = f := by omega
        rw [et] at h0c
        have hr : Hid (Ruling w wo B g n cp f (m5 (fn l) n) (fn l)) := h0c
        clear h0a h0b h0c h0d hbs hin et
        have c := hr.out.cell (Nat.le_refl _) hlt
        by_cases e6 : fn l f = 6
        · rw [e6] at c
          have H6 : Hid _ := e6
          clear e6
          go_wp2
          go_loop [3] (fun t => ∃ (t' : Nat), f ≤ t' ∧ t' ≤ n ∧ t = .int .i64 t' ∧ Hid (∀ j, f ≤ j → j < t' → fn l j = 6)) (fun t => n - (intOf t).toNat)
          case atStart => exact ⟨f, Nat.le_refl _, by omega, by go_num, fun j h1 h2 => by omega⟩
          case round =>
            obtain ⟨t, hft0, htn, rfl, hrun⟩ := hrel
            by_cases hmore : t < n ∧ fn l t = 6
            · obtain ⟨htl, e6⟩ := hmore
              have ct := hr.out.cell (j := t) (by omega) htl
              rw [e6] at ct
              have hti : (t : Int) < (n : Int) := by omega
              have H6t : Hid _ := e6
              clear e6
              go_wp2
              refine ⟨⟨t + 1, by omega, by omega, by go_num, fun j h1 h2 => ?_⟩, by simp only [intOf]; omega⟩
              by_cases e : j = t
              · subst e; exact H6t.out
              · exact hrun.out j h1 (by omega)
            · have hend : t = n ∨ fn l t ≠ 6 := by omega
              have hft : f < t := by
                rcases Nat.lt_or_ge f t with h | h
                · exact h
                · exfalso
                  have : t = f := by omega
                  subst this
                  exact hmore ⟨hlt, H6.out⟩
              have hc := m5_cond (z := fn l) (n := n) hft htn hrun.out hend
              by_cases hcnd : (0 < f ∧ m5 (fn l) n (f - 1) = 4) ∨ (t < n ∧ fn l t = 4)
              · have h4 : Hid (∀ j, f ≤ j → j < t → m5 (fn l) n j = 4) := fun j h1 h2 => by rw [m5_same htn hrun.out h1 h2]; exact hc.1 hcnd
                have HFIL : Hid (∀ p, p < t → f ≤ p → ∀ wr', Ruling w wr' B g n cp p (m5 (fn l) n) (fn l) → Ruling w (wr'.setCell ⟨g, p, none⟩ (.int .i64 4)) B g n cp (p + 1) (m5 (fn l) n) (fn l)) := fun p h1 h2 wr' h => h.set (by omega) (h4.out p h2 h1)
                have HEND : Hid (∀ wr', Ruling w wr' B g n cp t (m5 (fn l) n) (fn l) → Beside w wr' B g n cp (f + 1) (fn l)) := fun wr' h => ⟨t, by omega, htn, h, fun j h1 h2 => h4.out j (by omega) h2⟩
                clear hc
                by_cases hA : 0 < f ∧ m5 (fn l) n (f - 1) = 4
                · obtain ⟨hf0, hA4⟩ := hA
                  have cp1 := hr.out.done (j := f - 1) (by omega) (by omega)
                  rw [hA4] at cp1
                  obtain ⟨k, rfl⟩ : ∃ k, f = k + 1 := ⟨f - 1, by omega⟩
                  simp only [Nat.add_sub_cancel] at cp1
                  have hk0 : (0 : Int) < (k : Int) + 1 := by omega
                  clear hcnd hA4
                  by_cases htl : t < n
                  · have ct := hr.out.cell (j := t) (by omega) htl
                    have hti : (t : Int) < (n : Int) := by omega
                    have g6 : (fn l t == 6) = false := by simp; omega
                    clear hmore hend
                    go_wp2
                    go_loopw [4] (fun i wr => ∃ p : Nat, k + 1 ≤ p ∧ p ≤ t ∧ i = .int .i64 p ∧ Hid (Ruling w wr B g n cp p (m5 (fn l) n) (fn l))) (fun i _ => t - (intOf i).toNat)
                    case atStart => exact ⟨k + 1, Nat.le_refl _, by omega, by go_num, hr⟩
                    case round =>
                      obtain ⟨p, hp1, hp2, rfl, hp⟩ := hrel
                      by_cases hpt : p < t
                      · have cc := hp.out.cell (Nat.le_refl _) (show p < n by omega)
                        have ff := hp.out.free p
                        go_wp2
                        go_roundw
                        case rel => exact ⟨p + 1, by omega, by omega, by go_num, HFIL.out p hpt hp1 _ hp.out⟩
                        case measure => simp only [intOf]; omega
                      · have e : p = t := by omega
                        subst e
                        go_wp2
                        refine ⟨⟨k + 1 + 1, by omega, by go_num, HEND.out _ hp.out⟩, by simp only [intOf]; omega⟩
                  · have hti : ¬ (t : Int) < (n : Int) := by omega
                    clear hmore hend
                    go_wp2
                    go_loopw [4] (fun i wr => ∃ p : Nat, k + 1 ≤ p ∧ p ≤ t ∧ i = .int .i64 p ∧ Hid (Ruling w wr B g n cp p (m5 (fn l) n) (fn l))) (fun i _ => t - (intOf i).toNat)
                    case atStart => exact ⟨k + 1, Nat.le_refl _, by omega, by go_num, hr⟩
                    case round =>
                      obtain ⟨p, hp1, hp2, rfl, hp⟩ := hrel
                      by_cases hpt : p < t
                      · have cc := hp.out.cell (Nat.le_refl _) (show p < n by omega)
                        have ff := hp.out.free p
                        go_wp2
                        go_roundw
                        case rel => exact ⟨p + 1, by omega, by omega, by go_num, HFIL.out p hpt hp1 _ hp.out⟩
                        case measure => simp only [intOf]; omega
                      · have e : p = t := by omega
                        subst e
                        go_wp2
                        refine ⟨⟨k + 1 + 1, by omega, by go_num, HEND.out _ hp.out⟩, by simp only [intOf]; omega⟩
                · obtain ⟨htl, e4⟩ : t < n ∧ fn l t = 4 := by
                    rcases hcnd with h | h
                    · exact absurd h hA
                    · exact h
                  have ct := hr.out.cell (j := t) (by omega) htl
                  rw [e4] at ct
                  have hti : (t : Int) < (n : Int) := by omega
                  clear hmore hend hcnd e4
                  by_cases hf0 : f = 0
                  · subst hf0
                    clear hA
                    go_wp2
                    go_loopw [4] (fun i wr => ∃ p : Nat, 0 ≤ p ∧ p ≤ t ∧ i = .int .i64 p ∧ Hid (Ruling w wr B g n cp p (m5 (fn l) n) (fn l))) (fun i _ => t - (intOf i).toNat)
                    case atStart => exact ⟨0, Nat.le_refl _, by omega, by go_num, hr⟩
                    case round =>
                      obtain ⟨p, hp1, hp2, rfl, hp⟩ := hrel
                      by_cases hpt : p < t
                      · have cc := hp.out.cell (Nat.le_refl _) (show p < n by omega)
                        have ff := hp.out.free p
                        go_wp2
                        go_roundw
                        case rel => exact ⟨p + 1, by omega, by omega, by go_num, HFIL.out p hpt hp1 _ hp.out⟩
                        case measure => simp only [intOf]; omega
                      · have e : p = t := by omega
                        subst e
                        go_wp2
                        refine ⟨⟨1, by omega, by go_num, HEND.out _ hp.out⟩, by simp only [intOf]; omega⟩
                  · have cp1 := hr.out.done (j := f - 1) (by omega) (by omega)
                    obtain ⟨P, hP⟩ : ∃ P, m5 (fn l) n (f - 1) = P := ⟨_, rfl⟩
                    have gP : (P == 4) = false := by simp; rw [← hP]; intro h; exact hA ⟨by omega, h⟩
                    rw [hP] at cp1
                    clear hA hP
                    obtain ⟨k, rfl⟩ : ∃ k, f = k + 1 := ⟨f - 1, by omega⟩
                    simp only [Nat.add_sub_cancel] at cp1
                    have hk0 : (0 : Int) < (k : Int) + 1 := by omega
                    go_wp2
                    go_loopw [4] (fun i wr => ∃ p : Nat, k + 1 ≤ p ∧ p ≤ t ∧ i = .int .i64 p ∧ Hid (Ruling w wr B g n cp p (m5 (fn l) n) (fn l))) (fun i _ => t - (intOf i).toNat)
                    case atStart => exact ⟨k + 1, Nat.le_refl _, by omega, by go_num, hr⟩
                    case round =>
                      obtain ⟨p, hp1, hp2, rfl, hp⟩ := hrel
                      by_cases hpt : p < t
                      · have cc := hp.out.cell (Nat.le_refl _) (show p < n by omega)
                        have ff := hp.out.free p
                        go_wp2
                        go_roundw
                        case rel => exact ⟨p + 1, by omega, by omega, by go_num, HFIL.out p hpt hp1 _ hp.out⟩
                        case measure => simp only [intOf]; omega
                      · have e : p = t := by omega
                        subst e
                        go_wp2
                        refine ⟨⟨k + 1 + 1, by omega, by go_num, HEND.out _ hp.out⟩, by simp only [intOf]; omega⟩
              · have h6 : Hid (Beside w wo B g n cp (f + 1) (fn l)) := ⟨f + 1, Nat.le_refl _, by omega, hr.out.keep hlt (by
                  rcases m5_46 (z := fn l) (n := n) H6.out with h | h
                  · exact absurd (hc.2 h) hcnd
                  · rw [h, H6.out]), fun j h1 h2 => by omega⟩
                clear hc
                by_cases htl : t < n
                · have ct := hr.out.cell (j := t) (by omega) htl
                  have hti : (t : Int) < (n : Int) := by omega
                  have g6 : (fn l t == 6) = false := by simp; omega
                  have g4 : (fn l t == 4) = false := by simp; intro h; exact hcnd (.inr ⟨htl, h⟩)
                  by_cases hf0 : f = 0
                  · subst hf0
                    clear hmore hend hcnd
                    go_wp2
                    refine ⟨⟨1, by omega, by go_num, h6⟩, by simp only [intOf]; omega⟩
                  · have cp1 := hr.out.done (j := f - 1) (by omega) (by omega)
                    obtain ⟨P, hP⟩ : ∃ P, m5 (fn l) n (f - 1) = P := ⟨_, rfl⟩
                    have gP : (P == 4) = false := by simp; rw [← hP]; intro h; exact hcnd (.inl ⟨by omega, h⟩)
                    rw [hP] at cp1
                    clear hP hmore hend hcnd
                    obtain ⟨k, rfl⟩ : ∃ k, f = k + 1 := ⟨f - 1, by omega⟩
                    simp only [Nat.add_sub_cancel] at cp1
                    have hk0 : (0 : Int) < (k : Int) + 1 := by omega
                    go_wp2
                    refine ⟨⟨k + 1 + 1, by omega, by go_num, h6⟩, by simp only [intOf]; omega⟩
                · have hti : ¬ (t : Int) < (n : Int) := by omega
                  by_cases hf0 : f = 0
                  · subst hf0
                    clear hmore hend hcnd
                    go_wp2
                    refine ⟨⟨1, by omega, by go_num, h6⟩, by simp only [intOf]; omega⟩
                  · have cp1 := hr.out.done (j := f - 1) (by omega) (by omega)
                    obtain ⟨P, hP⟩ : ∃ P, m5 (fn l) n (f - 1) = P := ⟨_, rfl⟩
                    have gP : (P == 4) = false := by simp; rw [← hP]; intro h; exact hcnd (.inl ⟨by omega, h⟩)
                    rw [hP] at cp1
                    clear hP hmore hend hcnd
                    obtain ⟨k, rfl⟩ : ∃ k, f = k + 1 := ⟨f - 1, by omega⟩
                    simp only [Nat.add_sub_cancel] at cp1
                    have hk0 : (0 : Int) < (k : Int) + 1 := by omega
                    go_wp2
                    refine ⟨⟨k + 1 + 1, by omega, by go_num, h6⟩, by simp only [intOf]; omega⟩
        · have g6 : (fn l f != 6) = true := by simpa using e6
          have HK : Hid (Beside w wo B g n cp (f + 1) (fn l)) := ⟨f + 1, Nat.le_refl _, by omega, hr.out.keep hlt (m5_not (z := fn l) (n := n) e6), fun j h1 h2 => by omega⟩
          clear e6
          go_wp2
          go_roundw
          case rel => exact ⟨f + 1, by omega, by go_num, HK⟩
          case measure => simp only [intOf]; omega
    · have HF : Hid (Ruled w wo B g n cp (mkL n (m5 (fn l) n))) := by
        show Ruled _ _ _ _ _ _ _
        have : t0 = n := by omega
        rw [this] at h0c
        exact h0c.fin
      have e : f = n := by omega
      subst e
      clear h0a h0b h0c h0d
      go_wp2
      go_end0
      exact ⟨rfl, HF.out⟩
end Go.Proofs.YtgojdlbidjnmmaaGreat
