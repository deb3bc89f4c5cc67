import Derived.Test.YtbacfaddljjopaaSpecPlace
import Derived.Test.YtbacfaddljjopaaAppend
namespace Go.Proofs.Ytbacfaddljjopaa
open Go.ChangeShapes Go.WideShapes Go.ChangeAt Go.RowKit
set_option linter.unusedSimpArgs false

def ctdN (z : Nat → Int) (k : Nat) : List Int := (List.range k).map (ctd z)
theorem ctdN_succ (z : Nat → Int) (k : Nat) : ctdN z (k + 1) = ctdN z k ++ [ctd z k] := by simp [ctdN, List.range_succ]
theorem ctdN_len (z : Nat → Int) (k : Nat) : (ctdN z k).length = k := by simp [ctdN]
theorem fn_ctdN {z : Nat → Int} {k j : Nat} (h : j < k) : fn (ctdN z k) j = ctd z j := by simp [fn, ctdN, h]
theorem specLine_is (r C : Int) (w : World) (h : Hid (lineI r = C)) : Calls Try.prog 93 #[.int .i64 r] w fun e w' => e = .returned (.int .i64 C) ∧ Below w.heap.size w w' := by
  rw [← h.out]; exact specLine r w
theorem OwnI.sliceN {w : World} {v : Value} {l : List Int} {B n : Nat} (h : OwnI w B v l) (hn : l.length = n) (h0 : 0 < n) : ∃ g cap, v = .slice (some ⟨g, 0, none⟩) n cap := by
  rcases h.forms with ⟨_, e⟩ | ⟨g, cap, e, _⟩
  · exfalso; rw [e] at hn; simp at hn; omega
  · rw [hn] at e; exact ⟨g, cap, e⟩

set_option maxHeartbeats 8000000 in
theorem specCount_row (b off cap n : Nat) (l : List Int) (w : World) (hn : Hid (l.length = n)) (hl : n ≤ 80) (hb : b < w.heap.size) (hat : At w b off l) :
    Calls Try.prog 92 #[.slice (some ⟨b, off, none⟩) n cap] w fun e w' => (∃ v', e = .returned v' ∧ OwnI w' w.heap.size v' (ctdN (fn l) n)) ∧ Below w.heap.size w w' := by
  go_enter Try.func92, Try.ntmps92
  go_wp2_with fail
  go_loopw [3, 4] (fun q i wr => ∃ k : Nat, k ≤ n ∧ i = .int .i64 k ∧ OwnI wr w.heap.size q (ctdN (fn l) k) ∧ Below w.heap.size w wr) (fun _ i _ => n - (intOf i).toNat)
  case atStart => exact ⟨0, Nat.zero_le _, rfl, own_empty _ _ _ (Nat.le_refl _) rfl, by go_grown⟩
  case round =>
    obtain ⟨k, hk, rfl, hown, hbel⟩ := hrel
    have hsz := hbel.size
    by_cases hlt : k < n
    · have hcell : wr.cell? ⟨b, off + k, none⟩ = some (.int .i64 (fn l k)) := (hat.below hbel hb) k (by rw [hn.out]; exact hlt)
      have hle := ctdN_len (fn l) k
      have HLE : Hid _ := hle
      clear hle
      obtain ⟨C, hC⟩ : ∃ C, lineI (fn l k) = C := ⟨_, rfl⟩
      obtain ⟨D, hD⟩ : ∃ D, ctd (fn l) k = D := ⟨_, rfl⟩
      have HC : Hid _ := hC
      have HN : Hid (ctdN (fn l) (k + 1) = ctdN (fn l) k ++ [D]) := by show _ = _; rw [← hD]; exact ctdN_succ _ _
      by_cases h7 : C = 7
      · by_cases hk0 : k = 0
        · have e1 : D = 1 := by rw [← hD, ctd_ah, hC, if_pos h7]; subst hk0; rfl
          have g1 : decide (0 < k) = false := by simp; omega
          have g2 : decide ((0 : Int) < (k : Int)) = false := by simp; omega
          have g3 : ¬ ((0 : Int) < (k : Int)) := by omega
          subst e1
          subst h7
          clear hC hD hk0
          go_wp2_with fail
          refine (specLine_is _ 7 _ HC).mono ?_
          rintro e w5 ⟨rfl, b5⟩
          have B5 := bstep hbel b5
          go_wp2_with (at_builtin; refine own_append (.tmp 51) (.tmp 53) (hown.below b5) (by rw [HLE.out]; omega) B5.size rfl rfl rfl rfl ?_; intro v6 w6 hown6 hgr6)
          refine ⟨⟨k + 1, by omega, by go_num, by rw [HN.out]; exact hown6, grown_below B5 hgr6 (hown.below b5) (Nat.le_refl _) B5.size⟩, by simp only [intOf]; omega⟩
        · obtain ⟨p, rfl⟩ : ∃ p, k = p + 1 := ⟨k - 1, by omega⟩
          obtain ⟨A, hA⟩ : ∃ A, ctd (fn l) p = A := ⟨_, rfl⟩
          have hAr := (ctd_rng (fn l) p).1
          rw [hA] at hAr
          have HDD : Hid (D = if ¬ (A = 3 ∨ A = 4 ∨ A = 6) then A else 1) := by
            show _ = _
            rw [← hD, ctd_ah, hC, if_pos h7]
            show (if bearB (ctd (fn l) p) = true then ctd (fn l) p else 1) = _
            rw [hA, bear_pos hAr]; simp
          obtain ⟨g, cp, rfl⟩ := hown.sliceN HLE.out (by omega)
          have cA : wr.cell? ⟨g, p, none⟩ = some (.int .i64 A) := by rw [hown.cellN p (by omega), fn_ctdN (by omega), hA]
          have hgl := (hown.lt g rfl).2
          have g2 : (0 : Int) < ((p + 1 : Nat) : Int) := by omega
          have g3 : (p : Int) < ((p + 1 : Nat) : Int) := by omega
          have g4 : (0 : Int) < (p : Int) + 1 := by omega
          have g5 : (p : Int) < (p : Int) + 1 := by omega
          have CA : Hid _ := cA
          subst h7
          clear hC hD hA hk0 hAr
          by_cases q3 : A = 3
          · have e1 : D = 1 := by rw [HDD.out]; simp [q3]
            subst e1
            subst q3
            go_wp2_with fail
            refine (specLine_is _ 7 _ HC).mono ?_
            rintro e w5 ⟨rfl, b5⟩
            have B5 := bstep hbel b5
            have c5 := (b5.cell (p := ⟨g, p, none⟩) hgl).trans CA.out
            go_wp2_with (at_builtin; refine own_append (.tmp 51) (.tmp 53) (hown.below b5) (by rw [HLE.out]; omega) B5.size rfl rfl rfl rfl ?_; intro v6 w6 hown6 hgr6)
            refine ⟨⟨p + 1 + 1, by omega, by go_num, by rw [HN.out]; exact hown6, grown_below B5 hgr6 (hown.below b5) (Nat.le_refl _) B5.size⟩, by simp only [intOf]; omega⟩
          · have n3 : (A != 3) = true := by simpa using q3
            by_cases q4 : A = 4
            · have e1 : D = 1 := by rw [HDD.out]; simp [q4]
              subst e1
              subst q4
              go_wp2_with fail
              refine (specLine_is _ 7 _ HC).mono ?_
              rintro e w5 ⟨rfl, b5⟩
              have B5 := bstep hbel b5
              have c5 := (b5.cell (p := ⟨g, p, none⟩) hgl).trans CA.out
              go_wp2_with (at_builtin; refine own_append (.tmp 51) (.tmp 53) (hown.below b5) (by rw [HLE.out]; omega) B5.size rfl rfl rfl rfl ?_; intro v6 w6 hown6 hgr6)
              refine ⟨⟨p + 1 + 1, by omega, by go_num, by rw [HN.out]; exact hown6, grown_below B5 hgr6 (hown.below b5) (Nat.le_refl _) B5.size⟩, by simp only [intOf]; omega⟩
            · have n4 : (A != 4) = true := by simpa using q4
              by_cases q6 : A = 6
              · have e1 : D = 1 := by rw [HDD.out]; simp [q6]
                subst e1
                subst q6
                go_wp2_with fail
                refine (specLine_is _ 7 _ HC).mono ?_
                rintro e w5 ⟨rfl, b5⟩
                have B5 := bstep hbel b5
                have c5 := (b5.cell (p := ⟨g, p, none⟩) hgl).trans CA.out
                go_wp2_with (at_builtin; refine own_append (.tmp 51) (.tmp 53) (hown.below b5) (by rw [HLE.out]; omega) B5.size rfl rfl rfl rfl ?_; intro v6 w6 hown6 hgr6)
                refine ⟨⟨p + 1 + 1, by omega, by go_num, by rw [HN.out]; exact hown6, grown_below B5 hgr6 (hown.below b5) (Nat.le_refl _) B5.size⟩, by simp only [intOf]; omega⟩
              · have n6 : (A != 6) = true := by simpa using q6
                have e1 : D = A := by rw [HDD.out, if_pos (by omega)]
                subst e1
                clear q3 q4 q6
                go_wp2_with fail
                refine (specLine_is _ 7 _ HC).mono ?_
                rintro e w5 ⟨rfl, b5⟩
                have B5 := bstep hbel b5
                have c5 := (b5.cell (p := ⟨g, p, none⟩) hgl).trans CA.out
                go_wp2_with (at_builtin; refine own_append (.tmp 51) (.tmp 53) (hown.below b5) (by rw [HLE.out]; omega) B5.size rfl rfl rfl rfl ?_; intro v6 w6 hown6 hgr6)
                refine ⟨⟨p + 1 + 1, by omega, by go_num, by rw [HN.out]; exact hown6, grown_below B5 hgr6 (hown.below b5) (Nat.le_refl _) B5.size⟩, by simp only [intOf]; omega⟩
      · have g7 : (C == 7) = false := by simpa using h7
        have e1 : D = C := by rw [← hD, ctd_ah, hC, if_neg h7]
        subst e1
        clear hC hD h7
        go_wp2_with fail
        refine (specLine_is _ D _ HC).mono ?_
        rintro e w5 ⟨rfl, b5⟩
        have B5 := bstep hbel b5
        go_wp2_with (at_builtin; refine own_append (.tmp 51) (.tmp 53) (hown.below b5) (by rw [HLE.out]; omega) B5.size rfl rfl rfl rfl ?_; intro v6 w6 hown6 hgr6)
        refine ⟨⟨k + 1, by omega, by go_num, by rw [HN.out]; exact hown6, grown_below B5 hgr6 (hown.below b5) (Nat.le_refl _) B5.size⟩, by simp only [intOf]; omega⟩
    · have e : k = n := by omega
      subst e
      go_wp2_with fail
      go_ret
      exact ⟨⟨_, rfl, hown⟩, hbel⟩

set_option maxHeartbeats 2000000 in
theorem specBefore (g cp n k : Nat) (l : List Int) (w : World) (hc : Hid (∀ j, j < n → w.cell? ⟨g, j, none⟩ = some (.int .i64 (ctd (fn l) j)))) (hk : k < n) (hn : n ≤ 80) :
    Calls Try.prog 94 #[.slice (some ⟨g, 0, none⟩) n cp, .int .i64 k] w fun e w' => (∃ r : Int, e = .returned (.int .i64 r) ∧ ((r = -1 ∧ solC (fn l) (k + 1) = 0) ∨ ∃ j : Nat, r = (j : Int) ∧ j ≤ k ∧ ctd (fn l) j = solC (fn l) (k + 1))) ∧ w' = w := by
  go_enter Try.func94, Try.ntmps94
  go_wp2_with fail
  go_loop [1] (fun i => ∃ t : Nat, t ≤ k + 1 ∧ i = .int .i64 ((t : Int) - 1) ∧ Hid (solC (fn l) (k + 1) = solC (fn l) t)) (fun i => (intOf i + 1).toNat)
  case atStart => exact ⟨k + 1, by omega, by go_num, rfl⟩
  case round =>
    obtain ⟨t, ht, rfl, hS⟩ := hrel
    by_cases h0 : t = 0
    · have HS : Hid (solC (fn l) (k + 1) = 0) := by show _ = _; rw [hS.out, h0]; rfl
      subst h0
      go_wp2_with fail
      go_ret
      exact ⟨⟨_, rfl, .inl ⟨by simp, HS.out⟩⟩, rfl⟩
    · obtain ⟨p, rfl⟩ : ∃ p, t = p + 1 := ⟨t - 1, by omega⟩
      have e1 : (((p + 1 : Nat) : Int) - 1) = (p : Int) := by omega
      rw [e1]
      have hcell := hc.out p (by omega)
      have g1 : (p : Int) < (n : Int) := by omega
      clear h0 e1
      obtain ⟨D, hD⟩ : ∃ D, ctd (fn l) p = D := ⟨_, rfl⟩
      rw [hD] at hcell
      by_cases q : D = 3
      · have HS : Hid (solC (fn l) (k + 1) = solC (fn l) p) := by show _ = _; rw [hS.out]; simp only [solC]; rw [hD, if_pos q]
        subst q
        clear hD
        go_wp2_with fail
        refine ⟨⟨p, by omega, rfl, HS⟩, by simp only [intOf]; omega⟩
      · have HS : Hid (ctd (fn l) p = solC (fn l) (k + 1)) := by show _ = _; rw [hS.out]; simp only [solC]; rw [hD, if_neg q]
        have gq : (D == 3) = false := by simpa using q
        clear hD
        go_wp2_with fail
        go_ret
        exact ⟨⟨_, rfl, .inr ⟨p, rfl, by omega, HS.out⟩⟩, rfl⟩
end Go.Proofs.Ytbacfaddljjopaa
