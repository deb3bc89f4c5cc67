import Derived.Test.YtgojdlbidjnmmaaGreatWeakI3
namespace Go.Proofs.YtgojdlbidjnmmaaGreat
open Go.ChangeShapes Go.WideShapes Go.ChangeAt Go.RowKit
set_option linter.unusedSimpArgs false

theorem m5_six {z : Nat → Int} {n f : Nat} (h : z f = 6) : m5 z n f = if ah6 z f = 4 ∨ bh6 z n (n - f) = 4 then 4 else 6 := by
  unfold m5; rw [h]; simp
theorem m5_not {z : Nat → Int} {n f : Nat} (h : z f ≠ 6) : m5 z n f = z f := by
  unfold m5; rw [if_neg (fun a => h a.1)]
theorem m5_cond {z : Nat → Int} {n f t : Nat} (hft : f < t) (htn : t ≤ n) (hrun : ∀ j, f ≤ j → j < t → z j = 6) (hend : t = n ∨ z t ≠ 6) :
    (0 < f ∧ m5 z n (f - 1) = 4) ∨ (t < n ∧ z t = 4) ↔ m5 z n f = 4 := by
  have hb : bh6 z n (n - f) = 4 ↔ (t < n ∧ z t = 4) := by
    rw [bh6_run (by omega) htn hrun]
    rcases hend with rfl | h
    · simp [bh6]
    · by_cases e : t < n
      · rw [bh6_hit e h]; simp [e]
      · rw [show n - t = 0 by omega]; simp [bh6, e]
  have hf : m5 z n f = 4 ↔ (ah6 z f = 4 ∨ (t < n ∧ z t = 4)) := by
    rw [m5_six (hrun f (Nat.le_refl _) hft), ← hb]
    split <;> simp_all
  rw [hf]
  cases f with
  | zero => simp [ah6]
  | succ k =>
    simp only [ah6, Nat.add_sub_cancel, Nat.succ_pos, true_and]
    by_cases e : z k = 6
    · rw [if_pos e]
      have hk : m5 z n k = 4 ↔ (ah6 z k = 4 ∨ (t < n ∧ z t = 4)) := by
        rw [m5_six e, bh6_step (by omega) e, ← hb]
        split <;> simp_all
      rw [hk, or_assoc, or_self]
    · rw [if_neg e, m5_not e]
theorem m5_same {z : Nat → Int} {n f t : Nat} (htn : t ≤ n) (hrun : ∀ j, f ≤ j → j < t → z j = 6) {j : Nat} (h1 : f ≤ j) (h2 : j < t) : m5 z n j = m5 z n f := by
  rw [m5_run htn hrun h1 h2, m5_run htn hrun (Nat.le_refl _) (by omega)]
theorem m5_46 {z : Nat → Int} {n f : Nat} (h : z f = 6) : m5 z n f = 4 ∨ m5 z n f = 6 := by
  rw [m5_six h]; split <;> simp
theorem Ruling.run {w wr : World} {B g n cp f t : Nat} {m z : Nat → Int} (h : Ruling w wr B g n cp f m z) (hft : f ≤ t) (htn : t ≤ n) (hm : ∀ j, f ≤ j → j < t → m j = z j) : Ruling w wr B g n cp t m z := by
  obtain ⟨L, a, b, c, d⟩ := h
  refine ⟨L, a, ⟨fun j hj => ?_, fun j h1 h2 => b.2 j (by omega) h2⟩, c, d⟩
  by_cases e : j < f
  · exact b.1 j e
  · rw [b.2 j (by omega) (by omega), hm j (by omega) hj]
theorem ruling_fill {w wr w7 : World} {B g n cp f t : Nat} {m z : Nat → Int} {L L7 : List Int} {x : Int} (hup : upTo m z n f L) (hgr : w.grownBy wr (some g)) (hsz : wr.heap.size = w.heap.size)
    (hown7 : OwnI w7 B (.slice (some ⟨g, 0, none⟩) n cp) L7) (h7 : ∀ j, j < n → fn L7 j = if f ≤ j ∧ j < f + (t - f) then x else fn L j) (hgr7 : wr.grownBy w7 (some g)) (hsz7 : w7.heap.size = wr.heap.size)
    (hft : f ≤ t) (htn : t ≤ n) (hm : ∀ j, f ≤ j → j < t → m j = x) : Ruling w w7 B g n cp t m z := by
  refine ⟨L7, hown7, ⟨fun j hj => ?_, fun j h1 h2 => ?_⟩, grown_trans' hgr hgr7, by omega⟩
  · rw [h7 j (by omega)]
    by_cases e : f ≤ j
    · rw [if_pos (by omega), hm j e hj]
    · rw [if_neg (by omega)]; exact hup.1 j (by omega)
  · rw [h7 j h2, if_neg (by omega)]; exact hup.2 j (by omega) h2

set_option maxRecDepth 10000 in
set_option maxHeartbeats 4000000 in
theorem implR5 (R g n cp B : Nat) (b : Int) (l : List Int) (w : World) (hw : WT w R g n cp b) (hn : Hid (l.length = n)) (hv : OwnI w B (.slice (some ⟨g, 0, none⟩) n cp) l) (hl : n ≤ 80) (hcp : n ≤ cp) :
    Calls Tryz.prog 104 #[.pointer (some ⟨R, 0, none⟩)] w fun e w' => e = .returned (.tuple #[]) ∧ Ruled w w' B g n cp (r5 l) := by
  have HR : Hid (r5 l = mkL n (m5 (fn l) n)) := by show _ = _; unfold r5; rw [hn.out]
  rw [HR.out]
  have HS : Hid (Ruling w w B g n cp 0 (m5 (fn l) n) (fn l)) := Ruling.start hv
  have HW : Hid _ := hw
  obtain ⟨q0, q1, q2, q3⟩ := hw
  go_enter Tryz.func104, Tryz.ntmps104
  go_wp2
  clear q0 q1
  go_loopw [2] (fun i wr => ∃ f : Nat, f ≤ n ∧ i = .int .i64 f ∧ Hid (Ruling w wr B g n cp f (m5 (fn l) n) (fn l))) (fun i _ => n - (intOf i).toNat)
  case atStart => exact ⟨0, Nat.zero_le _, rfl, HS⟩
  case round =>
    obtain ⟨f, hf, rfl, hr⟩ := hrel
    obtain ⟨wo, rfl⟩ : ∃ wo : World, wo = wr := ⟨_, rfl⟩
    obtain ⟨q0, q1, _, _⟩ := hr.out.wt HW.out
    by_cases hlt : f < n
    · have c := hr.out.cell (Nat.le_refl _) hlt
      have hfi : (f : Int) < (n : Int) := by omega
      by_cases e6 : fn l f = 6
      · rw [e6] at c
        have H6 : Hid _ := e6
        clear e6
        go_wp2
        go_loop [3] (fun t => ∃ (t' : Nat), f < t' ∧ t' ≤ n ∧ t = .int .i64 t' ∧ Hid (∀ j, f ≤ j → j < t' → fn l j = 6)) (fun t => n - (intOf t).toNat)
        case atStart => exact ⟨f + 1, by omega, by omega, by go_num, fun j h1 h2 => by
          have : j = f := by omega
          subst this; exact H6.out⟩
        case round =>
          obtain ⟨t, hft, htn, rfl, hrun⟩ := hrel
          have g1 : (f : Int) ≤ (t : Int) := by omega
          have g2 : (t : Int) ≤ (cp : Int) := by omega
          have g3 : (f : Int) < (cp : Int) := by omega
          by_cases hmore : t < n ∧ fn l t = 6
          · obtain ⟨htl, e6⟩ := hmore
            have ct := hr.out.cell (j := t) (by omega) htl
            rw [e6] at ct
            have hti : (t : Int) < (n : Int) := by omega
            have H6t : Hid _ := e6
            clear e6
            go_wp2
            refine ⟨⟨t + 1, by omega, by omega, by go_num, fun j h1 h2 => ?_⟩, by simp only [intOf]; omega⟩
            by_cases e : j = t
            · subst e; exact H6t.out
            · exact hrun.out j h1 (by omega)
          · have hend : t = n ∨ fn l t ≠ 6 := by omega
            have hc := m5_cond (z := fn l) (n := n) hft htn hrun.out hend
            have HC : Hid _ := hc
            have HRUN : Hid (Ruling w wo B g n cp f (m5 (fn l) n) (fn l)) := hr
            by_cases hcnd : (0 < f ∧ m5 (fn l) n (f - 1) = 4) ∨ (t < n ∧ fn l t = 4)
            · have h4 : Hid (∀ j, f ≤ j → j < t → m5 (fn l) n j = 4) := fun j h1 h2 => by rw [m5_same htn hrun.out h1 h2]; exact hc.1 hcnd
              obtain ⟨L, hown, hup, hgr, hsz⟩ := hr.out
              have HUP : Hid _ := hup
              have HSZ : Hid _ := hsz
              clear hc hup hsz
              by_cases hA : 0 < f ∧ m5 (fn l) n (f - 1) = 4
              · obtain ⟨hf0, hA4⟩ := hA
                have cp1 := HRUN.out.done (j := f - 1) (by omega) (by omega)
                rw [hA4] at cp1
                obtain ⟨k, rfl⟩ : ∃ k, f = k + 1 := ⟨f - 1, by omega⟩
                simp only [Nat.add_sub_cancel] at cp1
                have hk0 : (0 : Int) < (k : Int) + 1 := by omega
                clear hcnd hA4
                by_cases htl : t < n
                · have ct := HRUN.out.cell (j := t) (by omega) htl
                  have hti : (t : Int) < (n : Int) := by omega
                  have g6 : (fn l t == 6) = false := by simp; omega
                  clear hmore hend
                  go_wp2_with (go_at_call 53; refine (fill_at g (k + 1) (t - (k + 1)) _ n cp L _ 4 _ hown (by omega) (by omega)).mono ?_; rintro e w7 ⟨rfl, ⟨L7, hown7, hL7⟩, hgr7, hsz7⟩)
                  refine ⟨⟨t, by omega, by go_num, ruling_fill HUP.out hgr HSZ.out hown7 hL7.out hgr7 hsz7 (by omega) htn h4.out⟩, by simp only [intOf]; omega⟩
                · have hti : ¬ (t : Int) < (n : Int) := by omega
                  clear hmore hend
                  go_wp2_with (go_at_call 53; refine (fill_at g (k + 1) (t - (k + 1)) _ n cp L _ 4 _ hown (by omega) (by omega)).mono ?_; rintro e w7 ⟨rfl, ⟨L7, hown7, hL7⟩, hgr7, hsz7⟩)
                  refine ⟨⟨t, by omega, by go_num, ruling_fill HUP.out hgr HSZ.out hown7 hL7.out hgr7 hsz7 (by omega) htn h4.out⟩, by simp only [intOf]; omega⟩
              · obtain ⟨htl, e4⟩ : t < n ∧ fn l t = 4 := by
                  rcases hcnd with h | h
                  · exact absurd h hA
                  · exact h
                have ct := HRUN.out.cell (j := t) (by omega) htl
                rw [e4] at ct
                have hti : (t : Int) < (n : Int) := by omega
                clear hmore hend hcnd e4
                by_cases hf0 : f = 0
                · subst hf0
                  clear hA
                  go_wp2_with (go_at_call 53; refine (fill_at g 0 (t - 0) _ n cp L _ 4 _ hown (by omega) (by omega)).mono ?_; rintro e w7 ⟨rfl, ⟨L7, hown7, hL7⟩, hgr7, hsz7⟩)
                  refine ⟨⟨t, by omega, by go_num, ruling_fill HUP.out hgr HSZ.out hown7 hL7.out hgr7 hsz7 (by omega) htn h4.out⟩, by simp only [intOf]; omega⟩
                · have cp1 := HRUN.out.done (j := f - 1) (by omega) (by omega)
                  obtain ⟨P, hP⟩ : ∃ P, m5 (fn l) n (f - 1) = P := ⟨_, rfl⟩
                  have gP : (P == 4) = false := by simp; rw [← hP]; intro h; exact hA ⟨by omega, h⟩
                  rw [hP] at cp1
                  clear hA hP
                  obtain ⟨k, rfl⟩ : ∃ k, f = k + 1 := ⟨f - 1, by omega⟩
                  simp only [Nat.add_sub_cancel] at cp1
                  have hk0 : (0 : Int) < (k : Int) + 1 := by omega
                  go_wp2_with (go_at_call 53; refine (fill_at g (k + 1) (t - (k + 1)) _ n cp L _ 4 _ hown (by omega) (by omega)).mono ?_; rintro e w7 ⟨rfl, ⟨L7, hown7, hL7⟩, hgr7, hsz7⟩)
                  refine ⟨⟨t, by omega, by go_num, ruling_fill HUP.out hgr HSZ.out hown7 hL7.out hgr7 hsz7 (by omega) htn h4.out⟩, by simp only [intOf]; omega⟩
            · have h6 : Hid (Ruling w wo B g n cp t (m5 (fn l) n) (fn l)) := hr.out.run (by omega) htn (fun j h1 h2 => by
                rw [m5_same htn hrun.out h1 h2, hrun.out j h1 h2]
                rcases m5_46 (z := fn l) (n := n) (hrun.out f (Nat.le_refl _) hft) with h | h
                · exact absurd (hc.2 h) hcnd
                · exact h)
              clear hc
              by_cases htl : t < n
              · have ct := HRUN.out.cell (j := t) (by omega) htl
                have hti : (t : Int) < (n : Int) := by omega
                have g6 : (fn l t == 6) = false := by simp; omega
                have g4 : (fn l t == 4) = false := by simp; intro h; exact hcnd (.inr ⟨htl, h⟩)
                by_cases hf0 : f = 0
                · subst hf0
                  clear hmore hend hcnd
                  go_wp2
                  refine ⟨⟨t, by omega, by go_num, h6⟩, by simp only [intOf]; omega⟩
                · have cp1 := HRUN.out.done (j := f - 1) (by omega) (by omega)
                  obtain ⟨P, hP⟩ : ∃ P, m5 (fn l) n (f - 1) = P := ⟨_, rfl⟩
                  have gP : (P == 4) = false := by simp; rw [← hP]; intro h; exact hcnd (.inl ⟨by omega, h⟩)
                  rw [hP] at cp1
                  clear hP hmore hend hcnd
                  obtain ⟨k, rfl⟩ : ∃ k, f = k + 1 := ⟨f - 1, by omega⟩
                  simp only [Nat.add_sub_cancel] at cp1
                  have hk0 : (0 : Int) < (k : Int) + 1 := by omega
                  go_wp2
                  refine ⟨⟨t, by omega, by go_num, h6⟩, by simp only [intOf]; omega⟩
              · have hti : ¬ (t : Int) < (n : Int) := by omega
                by_cases hf0 : f = 0
                · subst hf0
                  clear hmore hend hcnd
                  go_wp2
                  refine ⟨⟨t, by omega, by go_num, h6⟩, by simp only [intOf]; omega⟩
                · have cp1 := HRUN.out.done (j := f - 1) (by omega) (by omega)
                  obtain ⟨P, hP⟩ : ∃ P, m5 (fn l) n (f - 1) = P := ⟨_, rfl⟩
                  have gP : (P == 4) = false := by simp; rw [← hP]; intro h; exact hcnd (.inl ⟨by omega, h⟩)
                  rw [hP] at cp1
                  clear hP hmore hend hcnd
                  obtain ⟨k, rfl⟩ : ∃ k, f = k + 1 := ⟨f - 1, by omega⟩
                  simp only [Nat.add_sub_cancel] at cp1
                  have hk0 : (0 : Int) < (k : Int) + 1 := by omega
                  go_wp2
                  refine ⟨⟨t, by omega, by go_num, h6⟩, by simp only [intOf]; omega⟩
      · have g6 : (fn l f != 6) = true := by simpa using e6
        have HK : Hid _ := m5_not (z := fn l) (n := n) e6
        clear e6
        go_wp2
        go_roundw
        case rel => exact ⟨f + 1, by omega, by go_num, hr.out.keep hlt HK.out⟩
        case measure => simp only [intOf]; omega
    · have e : f = n := by omega
      subst e
      go_wp2
      go_end0
      exact ⟨rfl, hr.out.fin⟩
end Go.Proofs.YtgojdlbidjnmmaaGreat
