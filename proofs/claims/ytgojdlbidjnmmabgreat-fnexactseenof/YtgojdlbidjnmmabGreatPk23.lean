import Derived.Test.YtgojdlbidjnmmabGreatPk16
import Derived.Test.YtgojdlbidjnmmabGreatPk15
namespace Go.Proofs.YtgojdlbidjnmmabGreat
open Go.ChangeShapes Go.WideShapes Go.ChangeAt Go.RowKit
set_option linter.unusedSimpArgs false
set_option linter.unusedVariables false

set_option maxHeartbeats 16000000 in
theorem specPlain_row (b off cap n : Nat) (l : List Int) (before after lv : Int) (w : World) (hn : Hid (l.length = n)) (hn0 : 0 < n) (hl : n ≤ 80) (hb : b < w.heap.size) (hat : At w b off l) (h1 : Hid (sideB before = true)) (h2 : Hid (sideB after = true)) (h3 : 0 ≤ lv) (h4 : lv ≤ 22) :
    Calls Tryz.prog 42 #[.slice (some ⟨b, off, none⟩) n cap, .int .i64 before, .int .i64 after, .int .i64 lv] w fun e w' => (∃ v', e = .returned v' ∧ OwnI w' w.heap.size v' (plainL l before after lv)) ∧ Below w.heap.size w w' := by
  have ho := own_empty w w.heap.size 3 (Nat.le_refl _) rfl
  have hat2 : At (w.alloc (.cells #[] 3)) b off l := hat.below (B := w.heap.size) ((Below.refl _ _).alloc (Nat.le_refl _) _) hb
  have AS0 : asB before = before := as_side h1.out
  have AS1 : asB after = after := as_side h2.out
  have HA0 : Hid _ := AS0
  have HA1 : Hid _ := AS1
  clear AS0 AS1
  go_enter Tryz.func42, Tryz.ntmps42
  go_wp2_with (at_builtin; refine own_appendAll (.tmp 16) (.tmp 17) ho hn.out (by simp; omega) (by simp) hat2 rfl rfl rfl rfl ?_; intro v4 w4 o4 gr4; have tok : True := trivial)
  have b4 : Below w.heap.size w w4 := by
    refine ((Below.refl _ _).alloc (Nat.le_refl _) _).grown gr4 (by simp) (fun k hk => ?_)
    simp [Value.ownBlock] at hk
    omega
  simp only [List.nil_append] at o4
  obtain ⟨g, cp, rfl, hg, hgw, hncp⟩ : ∃ g cp, v4 = .slice (some ⟨g, 0, none⟩) n cp ∧ w.heap.size ≤ g ∧ g < w4.heap.size ∧ n ≤ cp := by
    rcases o4.forms with ⟨_, e⟩ | ⟨g, cp, e, e1, e2, e3, _⟩
    · exfalso; have := hn.out; rw [e] at this; simp at this; omega
    · rw [hn.out] at e e3; exact ⟨g, cp, e, e1, e2, e3⟩
  clear hat2 ho gr4 hat
  go_wp2_with fail
  go_loopw [10] (fun i wr => ∃ (f : Nat) (L : List Int), f ≤ n ∧ i = .int .i64 f ∧ OwnI wr w.heap.size (.slice (some ⟨g, 0, none⟩) n cp) L ∧ Hid (doneTo (fn l) n before after lv f L) ∧ Hid (f = 0 ∨ f = n ∨ noP (fn l (f - 1)) = false ∨ noP (fn l f) = false) ∧ Below w.heap.size w wr) (fun i _ => n - (intOf i).toNat)
  case atStart => exact ⟨0, l, Nat.zero_le _, rfl, o4, ⟨fun j hj => by omega, fun j _ _ => rfl⟩, .inl rfl, b4⟩
  case round =>
    obtain ⟨f, L, hf, rfl, hown, hinv, hedge, hbel⟩ := hrel
    obtain ⟨wo, rfl⟩ : ∃ wo : World, wo = wr := ⟨_, rfl⟩
    by_cases hlt : f < n
    · have hcell : ∀ j, f ≤ j → j < n → wo.cell? ⟨g, j, none⟩ = some (.int .i64 (fn l j)) := fun j h1 h2 => by rw [hown.cellN j h2, hinv.out.2 j h1 h2]
      have HC : Hid _ := hcell
      clear hcell
      have hfi : (f : Int) < (n : Int) := by omega
      go_wp2_with fail
      go_loop [11] (fun t => ∃ (t' : Nat), f ≤ t' ∧ t' ≤ n ∧ t = .int .i64 t' ∧ Hid (∀ j, f ≤ j → j < t' → noP (fn l j) = true)) (fun t => n - (intOf t).toNat)
      case atStart => exact ⟨f, Nat.le_refl _, by omega, rfl, fun j h1 h2 => by omega⟩
      case round =>
        obtain ⟨t, hft, htn, rfl, hrun⟩ := hrel
        by_cases htl : t < n
        · have ct := HC.out t (by omega) htl
          have hti : (t : Int) < (n : Int) := by omega
          by_cases hqt : noP (fn l t) = true
          · have HT : Hid _ := hqt
            clear hqt
            go_wp2_with (go_at_call 68; refine (specNo? _ _).mono ?_; rintro e w5 ⟨rfl, rfl⟩; rw [HT.out])
            refine ⟨⟨t + 1, by omega, by omega, by go_num, fun j h1 h2 => ?_⟩, by simp only [intOf]; omega⟩
            by_cases e : j = t
            · subst e; exact HT.out
            · exact hrun.out j h1 (by omega)
          · have hqt' : noP (fn l t) = false := by simpa using hqt
            have HT : Hid _ := hqt'
            clear hqt hqt'
            by_cases hft2 : t = f
            · subst hft2
              go_wp2_with (go_at_call 68; refine (specNo? _ _).mono ?_; rintro e w5 ⟨rfl, rfl⟩; rw [HT.out])
              refine ⟨⟨t + 1, L, by omega, by go_num, hown, ⟨fun j hj => ?_, fun j a c => hinv.out.2 j (by omega) c⟩, .inr (.inr (.inl (by simpa using HT.out))), hbel⟩, by simp only [intOf]; omega⟩
              by_cases e : j = t
              · subst e; rw [plain_other HT.out]; exact hinv.out.2 j (Nat.le_refl _) hlt
              · exact hinv.out.1 j (by omega)
            · have hne : ((t : Int) == (f : Int)) = false := by simp; omega
              have hff : f < t := by omega
              have htf : noP (fn l f) = true := hrun.out f (Nat.le_refl _) hff
              by_cases hf0 : f = 0
              · have HAH : Hid (ahP (fn l) before f = before) := by show _ = _; subst hf0; rfl
                have gz : decide ((0 : Int) < (f : Int)) = false := by simp; omega
                have gz1 : ¬ (0 < f) := by omega
                have HF : Hid _ := hf0
                clear hf0 htf hft2
                by_cases hE0 : before = asB (fn l t)
                · have hE : (before == asB (fn l t)) = true := by simpa using hE0
                  clear hE0
                  by_cases hS : sideB (before) = true
                  ·
                    have HR : Hid (among (ahP (fn l) before f) (bhP (fn l) n after (n - t)) lv = before) := by
                      show _ = _
                      rw [bhP_hit htl HT.out, HAH.out, ← among_as, HA0.out]
                      rw [if_pos ⟨by simpa using hE, hS⟩]
                    have HS : Hid _ := hS
                    clear hS
                    go_wp2_with (first | (go_at_call 68; refine (specNo? _ _).mono ?_; rintro e w5 ⟨rfl, rfl⟩; rw [HT.out]) | (go_at_call 69; refine (specAs _ _).mono ?_; rintro e w5 ⟨rfl, rfl⟩) | (go_at_call 58; refine (specOwn _ _ h3).mono ?_; rintro e w5 ⟨rfl, rfl⟩) | (go_at_call 70; refine (specSide? _ _).mono ?_; rintro e w5 ⟨rfl, rfl⟩; rw [HS.out]))
                    go_loopw [15] (fun q wv => ∃ (j : Nat) (L' : List Int), f ≤ j ∧ j ≤ t ∧ q = .int .i64 j ∧ OwnI wv w.heap.size (.slice (some ⟨g, 0, none⟩) n cp) L' ∧ Hid (∀ x, x < n → fn L' x = if f ≤ x ∧ x < j then before else fn L x) ∧ Below w.heap.size w wv) (fun q _ => t - (intOf q).toNat)
                    case atStart => exact ⟨f, L, Nat.le_refl _, by omega, rfl, hown, fun x _ => by rw [if_neg (by omega)], hbel⟩
                    case round =>
                      obtain ⟨j, L', hfj, hjt, rfl, hown', hL', hbel'⟩ := hrel
                      by_cases hjl : j < t
                      · have hfz : wr.frozen? ⟨g, j, none⟩ = false := hown'.frozenN j
                        have hcz : wr.cell? ⟨g, j, none⟩ = some (.int .i64 (fn L' j)) := hown'.cellN j (by omega)
                        have hji : (j : Int) < (t : Int) := by omega
                        have hjn : (j : Int) < (n : Int) := by omega
                        go_wp2_with fail
                        refine ⟨⟨j + 1, L'.set j (before), by omega, by omega, by go_num, hown'.storedN j _, fun x hx => ?_, hbel'.setCell hg _⟩, by simp only [intOf]; omega⟩
                        have e := hown'.len
                        by_cases ex : x = j
                        · subst ex; rw [fn_set_same (by omega), if_pos (by omega)]
                        · rw [fn_set_other (by omega), hL'.out x hx]
                          by_cases e2 : f ≤ x ∧ x < j
                          · rw [if_pos e2, if_pos (by omega)]
                          · rw [if_neg e2, if_neg (by omega)]
                      · have e : j = t := by omega
                        subst e
                        go_wp2_with fail
                        refine ⟨⟨j, L', by omega, rfl, hown', ?_, ?_, hbel'⟩, by simp only [intOf]; omega⟩
                        · refine done_step hinv.out (by omega) (by omega) hrun.out HR.out (fun x hx => ?_)
                          rw [hL'.out x hx, show f + (j - f) = j by omega]
                        · exact Or.inr (Or.inr (Or.inr HT.out))
                  · have hS : sideB (before) = false := by simpa using hS
                    have HR : Hid (among (ahP (fn l) before f) (bhP (fn l) n after (n - t)) lv = ownOf lv) := by
                      show _ = _
                      rw [bhP_hit htl HT.out, HAH.out, ← among_as, HA0.out]
                      rw [if_neg (fun h => by rw [h.2] at hS; cases hS)]
                    have HS : Hid _ := hS
                    clear hS
                    go_wp2_with (first | (go_at_call 68; refine (specNo? _ _).mono ?_; rintro e w5 ⟨rfl, rfl⟩; rw [HT.out]) | (go_at_call 69; refine (specAs _ _).mono ?_; rintro e w5 ⟨rfl, rfl⟩) | (go_at_call 58; refine (specOwn _ _ h3).mono ?_; rintro e w5 ⟨rfl, rfl⟩) | (go_at_call 70; refine (specSide? _ _).mono ?_; rintro e w5 ⟨rfl, rfl⟩; rw [HS.out]))
                    go_loopw [15] (fun q wv => ∃ (j : Nat) (L' : List Int), f ≤ j ∧ j ≤ t ∧ q = .int .i64 j ∧ OwnI wv w.heap.size (.slice (some ⟨g, 0, none⟩) n cp) L' ∧ Hid (∀ x, x < n → fn L' x = if f ≤ x ∧ x < j then ownOf lv else fn L x) ∧ Below w.heap.size w wv) (fun q _ => t - (intOf q).toNat)
                    case atStart => exact ⟨f, L, Nat.le_refl _, by omega, rfl, hown, fun x _ => by rw [if_neg (by omega)], hbel⟩
                    case round =>
                      obtain ⟨j, L', hfj, hjt, rfl, hown', hL', hbel'⟩ := hrel
                      by_cases hjl : j < t
                      · have hfz : wr.frozen? ⟨g, j, none⟩ = false := hown'.frozenN j
                        have hcz : wr.cell? ⟨g, j, none⟩ = some (.int .i64 (fn L' j)) := hown'.cellN j (by omega)
                        have hji : (j : Int) < (t : Int) := by omega
                        have hjn : (j : Int) < (n : Int) := by omega
                        go_wp2_with fail
                        refine ⟨⟨j + 1, L'.set j (ownOf lv), by omega, by omega, by go_num, hown'.storedN j _, fun x hx => ?_, hbel'.setCell hg _⟩, by simp only [intOf]; omega⟩
                        have e := hown'.len
                        by_cases ex : x = j
                        · subst ex; rw [fn_set_same (by omega), if_pos (by omega)]
                        · rw [fn_set_other (by omega), hL'.out x hx]
                          by_cases e2 : f ≤ x ∧ x < j
                          · rw [if_pos e2, if_pos (by omega)]
                          · rw [if_neg e2, if_neg (by omega)]
                      · have e : j = t := by omega
                        subst e
                        go_wp2_with fail
                        refine ⟨⟨j, L', by omega, rfl, hown', ?_, ?_, hbel'⟩, by simp only [intOf]; omega⟩
                        · refine done_step hinv.out (by omega) (by omega) hrun.out HR.out (fun x hx => ?_)
                          rw [hL'.out x hx, show f + (j - f) = j by omega]
                        · exact Or.inr (Or.inr (Or.inr HT.out))
                · have hE : (before == asB (fn l t)) = false := by simpa using hE0
                  clear hE0
                  have HR : Hid (among (ahP (fn l) before f) (bhP (fn l) n after (n - t)) lv = ownOf lv) := by
                    show _ = _
                    rw [bhP_hit htl HT.out, HAH.out, ← among_as, HA0.out]
                    rw [if_neg (fun h => by rw [h.1] at hE; simp at hE)]
                  skip
                  skip
                  go_wp2_with (first | (go_at_call 68; refine (specNo? _ _).mono ?_; rintro e w5 ⟨rfl, rfl⟩; rw [HT.out]) | (go_at_call 69; refine (specAs _ _).mono ?_; rintro e w5 ⟨rfl, rfl⟩) | (go_at_call 58; refine (specOwn _ _ h3).mono ?_; rintro e w5 ⟨rfl, rfl⟩))
                  go_loopw [15] (fun q wv => ∃ (j : Nat) (L' : List Int), f ≤ j ∧ j ≤ t ∧ q = .int .i64 j ∧ OwnI wv w.heap.size (.slice (some ⟨g, 0, none⟩) n cp) L' ∧ Hid (∀ x, x < n → fn L' x = if f ≤ x ∧ x < j then ownOf lv else fn L x) ∧ Below w.heap.size w wv) (fun q _ => t - (intOf q).toNat)
                  case atStart => exact ⟨f, L, Nat.le_refl _, by omega, rfl, hown, fun x _ => by rw [if_neg (by omega)], hbel⟩
                  case round =>
                    obtain ⟨j, L', hfj, hjt, rfl, hown', hL', hbel'⟩ := hrel
                    by_cases hjl : j < t
                    · have hfz : wr.frozen? ⟨g, j, none⟩ = false := hown'.frozenN j
                      have hcz : wr.cell? ⟨g, j, none⟩ = some (.int .i64 (fn L' j)) := hown'.cellN j (by omega)
                      have hji : (j : Int) < (t : Int) := by omega
                      have hjn : (j : Int) < (n : Int) := by omega
                      go_wp2_with fail
                      refine ⟨⟨j + 1, L'.set j (ownOf lv), by omega, by omega, by go_num, hown'.storedN j _, fun x hx => ?_, hbel'.setCell hg _⟩, by simp only [intOf]; omega⟩
                      have e := hown'.len
                      by_cases ex : x = j
                      · subst ex; rw [fn_set_same (by omega), if_pos (by omega)]
                      · rw [fn_set_other (by omega), hL'.out x hx]
                        by_cases e2 : f ≤ x ∧ x < j
                        · rw [if_pos e2, if_pos (by omega)]
                        · rw [if_neg e2, if_neg (by omega)]
                    · have e : j = t := by omega
                      subst e
                      go_wp2_with fail
                      refine ⟨⟨j, L', by omega, rfl, hown', ?_, ?_, hbel'⟩, by simp only [intOf]; omega⟩
                      · refine done_step hinv.out (by omega) (by omega) hrun.out HR.out (fun x hx => ?_)
                        rw [hL'.out x hx, show f + (j - f) = j by omega]
                      · exact Or.inr (Or.inr (Or.inr HT.out))
              · obtain ⟨p, rfl⟩ : ∃ p, f = p + 1 := ⟨f - 1, by omega⟩
                have hpz : noP (fn l p) = false := by
                  rcases hedge.out with h | h | h | h
                  · omega
                  · omega
                  · simpa using h
                  · rw [htf] at h; cases h
                have HAH : Hid (ahP (fn l) before (p + 1) = fn l p) := ahP_hit hpz
                have cp0 : wo.cell? ⟨g, p, none⟩ = some (.int .i64 (fn l p)) := by rw [hown.cellN p (by omega), hinv.out.1 p (by omega), plain_other hpz]
                clear hf0 htf hft2 hpz
                by_cases hE0 : asB (fn l p) = asB (fn l t)
                · have hE : (asB (fn l p) == asB (fn l t)) = true := by simpa using hE0
                  clear hE0
                  by_cases hS : sideB (asB (fn l p)) = true
                  ·
                    have HR : Hid (among (ahP (fn l) before (p + 1)) (bhP (fn l) n after (n - t)) lv = asB (fn l p)) := by
                      show _ = _
                      rw [bhP_hit htl HT.out, HAH.out, ← among_as]
                      rw [if_pos ⟨by simpa using hE, hS⟩]
                    have HS : Hid _ := hS
                    clear hS
                    go_wp2_with (first | (go_at_call 68; refine (specNo? _ _).mono ?_; rintro e w5 ⟨rfl, rfl⟩; rw [HT.out]) | (go_at_call 69; refine (specAs _ _).mono ?_; rintro e w5 ⟨rfl, rfl⟩) | (go_at_call 58; refine (specOwn _ _ h3).mono ?_; rintro e w5 ⟨rfl, rfl⟩) | (go_at_call 70; refine (specSide? _ _).mono ?_; rintro e w5 ⟨rfl, rfl⟩; rw [HS.out]))
                    go_loopw [15] (fun q wv => ∃ (j : Nat) (L' : List Int), (p + 1) ≤ j ∧ j ≤ t ∧ q = .int .i64 j ∧ OwnI wv w.heap.size (.slice (some ⟨g, 0, none⟩) n cp) L' ∧ Hid (∀ x, x < n → fn L' x = if (p + 1) ≤ x ∧ x < j then asB (fn l p) else fn L x) ∧ Below w.heap.size w wv) (fun q _ => t - (intOf q).toNat)
                    case atStart => exact ⟨(p + 1), L, Nat.le_refl _, by omega, rfl, hown, fun x _ => by rw [if_neg (by omega)], hbel⟩
                    case round =>
                      obtain ⟨j, L', hfj, hjt, rfl, hown', hL', hbel'⟩ := hrel
                      by_cases hjl : j < t
                      · have hfz : wr.frozen? ⟨g, j, none⟩ = false := hown'.frozenN j
                        have hcz : wr.cell? ⟨g, j, none⟩ = some (.int .i64 (fn L' j)) := hown'.cellN j (by omega)
                        have hji : (j : Int) < (t : Int) := by omega
                        have hjn : (j : Int) < (n : Int) := by omega
                        go_wp2_with fail
                        refine ⟨⟨j + 1, L'.set j (asB (fn l p)), by omega, by omega, by go_num, hown'.storedN j _, fun x hx => ?_, hbel'.setCell hg _⟩, by simp only [intOf]; omega⟩
                        have e := hown'.len
                        by_cases ex : x = j
                        · subst ex; rw [fn_set_same (by omega), if_pos (by omega)]
                        · rw [fn_set_other (by omega), hL'.out x hx]
                          by_cases e2 : (p + 1) ≤ x ∧ x < j
                          · rw [if_pos e2, if_pos (by omega)]
                          · rw [if_neg e2, if_neg (by omega)]
                      · have e : j = t := by omega
                        subst e
                        go_wp2_with fail
                        refine ⟨⟨j, L', by omega, rfl, hown', ?_, ?_, hbel'⟩, by simp only [intOf]; omega⟩
                        · refine done_step hinv.out (by omega) (by omega) hrun.out HR.out (fun x hx => ?_)
                          rw [hL'.out x hx, show (p + 1) + (j - (p + 1)) = j by omega]
                        · exact Or.inr (Or.inr (Or.inr HT.out))
                  · have hS : sideB (asB (fn l p)) = false := by simpa using hS
                    have HR : Hid (among (ahP (fn l) before (p + 1)) (bhP (fn l) n after (n - t)) lv = ownOf lv) := by
                      show _ = _
                      rw [bhP_hit htl HT.out, HAH.out, ← among_as]
                      rw [if_neg (fun h => by rw [h.2] at hS; cases hS)]
                    have HS : Hid _ := hS
                    clear hS
                    go_wp2_with (first | (go_at_call 68; refine (specNo? _ _).mono ?_; rintro e w5 ⟨rfl, rfl⟩; rw [HT.out]) | (go_at_call 69; refine (specAs _ _).mono ?_; rintro e w5 ⟨rfl, rfl⟩) | (go_at_call 58; refine (specOwn _ _ h3).mono ?_; rintro e w5 ⟨rfl, rfl⟩) | (go_at_call 70; refine (specSide? _ _).mono ?_; rintro e w5 ⟨rfl, rfl⟩; rw [HS.out]))
                    go_loopw [15] (fun q wv => ∃ (j : Nat) (L' : List Int), (p + 1) ≤ j ∧ j ≤ t ∧ q = .int .i64 j ∧ OwnI wv w.heap.size (.slice (some ⟨g, 0, none⟩) n cp) L' ∧ Hid (∀ x, x < n → fn L' x = if (p + 1) ≤ x ∧ x < j then ownOf lv else fn L x) ∧ Below w.heap.size w wv) (fun q _ => t - (intOf q).toNat)
                    case atStart => exact ⟨(p + 1), L, Nat.le_refl _, by omega, rfl, hown, fun x _ => by rw [if_neg (by omega)], hbel⟩
                    case round =>
                      obtain ⟨j, L', hfj, hjt, rfl, hown', hL', hbel'⟩ := hrel
                      by_cases hjl : j < t
                      · have hfz : wr.frozen? ⟨g, j, none⟩ = false := hown'.frozenN j
                        have hcz : wr.cell? ⟨g, j, none⟩ = some (.int .i64 (fn L' j)) := hown'.cellN j (by omega)
                        have hji : (j : Int) < (t : Int) := by omega
                        have hjn : (j : Int) < (n : Int) := by omega
                        go_wp2_with fail
                        refine ⟨⟨j + 1, L'.set j (ownOf lv), by omega, by omega, by go_num, hown'.storedN j _, fun x hx => ?_, hbel'.setCell hg _⟩, by simp only [intOf]; omega⟩
                        have e := hown'.len
                        by_cases ex : x = j
                        · subst ex; rw [fn_set_same (by omega), if_pos (by omega)]
                        · rw [fn_set_other (by omega), hL'.out x hx]
                          by_cases e2 : (p + 1) ≤ x ∧ x < j
                          · rw [if_pos e2, if_pos (by omega)]
                          · rw [if_neg e2, if_neg (by omega)]
                      · have e : j = t := by omega
                        subst e
                        go_wp2_with fail
                        refine ⟨⟨j, L', by omega, rfl, hown', ?_, ?_, hbel'⟩, by simp only [intOf]; omega⟩
                        · refine done_step hinv.out (by omega) (by omega) hrun.out HR.out (fun x hx => ?_)
                          rw [hL'.out x hx, show (p + 1) + (j - (p + 1)) = j by omega]
                        · exact Or.inr (Or.inr (Or.inr HT.out))
                · have hE : (asB (fn l p) == asB (fn l t)) = false := by simpa using hE0
                  clear hE0
                  have HR : Hid (among (ahP (fn l) before (p + 1)) (bhP (fn l) n after (n - t)) lv = ownOf lv) := by
                    show _ = _
                    rw [bhP_hit htl HT.out, HAH.out, ← among_as]
                    rw [if_neg (fun h => by rw [h.1] at hE; simp at hE)]
                  skip
                  skip
                  go_wp2_with (first | (go_at_call 68; refine (specNo? _ _).mono ?_; rintro e w5 ⟨rfl, rfl⟩; rw [HT.out]) | (go_at_call 69; refine (specAs _ _).mono ?_; rintro e w5 ⟨rfl, rfl⟩) | (go_at_call 58; refine (specOwn _ _ h3).mono ?_; rintro e w5 ⟨rfl, rfl⟩))
                  go_loopw [15] (fun q wv => ∃ (j : Nat) (L' : List Int), (p + 1) ≤ j ∧ j ≤ t ∧ q = .int .i64 j ∧ OwnI wv w.heap.size (.slice (some ⟨g, 0, none⟩) n cp) L' ∧ Hid (∀ x, x < n → fn L' x = if (p + 1) ≤ x ∧ x < j then ownOf lv else fn L x) ∧ Below w.heap.size w wv) (fun q _ => t - (intOf q).toNat)
                  case atStart => exact ⟨(p + 1), L, Nat.le_refl _, by omega, rfl, hown, fun x _ => by rw [if_neg (by omega)], hbel⟩
                  case round =>
                    obtain ⟨j, L', hfj, hjt, rfl, hown', hL', hbel'⟩ := hrel
                    by_cases hjl : j < t
                    · have hfz : wr.frozen? ⟨g, j, none⟩ = false := hown'.frozenN j
                      have hcz : wr.cell? ⟨g, j, none⟩ = some (.int .i64 (fn L' j)) := hown'.cellN j (by omega)
                      have hji : (j : Int) < (t : Int) := by omega
                      have hjn : (j : Int) < (n : Int) := by omega
                      go_wp2_with fail
                      refine ⟨⟨j + 1, L'.set j (ownOf lv), by omega, by omega, by go_num, hown'.storedN j _, fun x hx => ?_, hbel'.setCell hg _⟩, by simp only [intOf]; omega⟩
                      have e := hown'.len
                      by_cases ex : x = j
                      · subst ex; rw [fn_set_same (by omega), if_pos (by omega)]
                      · rw [fn_set_other (by omega), hL'.out x hx]
                        by_cases e2 : (p + 1) ≤ x ∧ x < j
                        · rw [if_pos e2, if_pos (by omega)]
                        · rw [if_neg e2, if_neg (by omega)]
                    · have e : j = t := by omega
                      subst e
                      go_wp2_with fail
                      refine ⟨⟨j, L', by omega, rfl, hown', ?_, ?_, hbel'⟩, by simp only [intOf]; omega⟩
                      · refine done_step hinv.out (by omega) (by omega) hrun.out HR.out (fun x hx => ?_)
                        rw [hL'.out x hx, show (p + 1) + (j - (p + 1)) = j by omega]
                      · exact Or.inr (Or.inr (Or.inr HT.out))
        · have htt : t = n := by omega
          have hti : ((t : Int) < (n : Int)) = False := by simp; omega
          have hff : f < t := by omega
          have hne : ((t : Int) == (f : Int)) = false := by simp; omega
          have htf : noP (fn l f) = true := hrun.out f (Nat.le_refl _) hff
          have HTT : Hid _ := htt
          clear htt
          by_cases hf0 : f = 0
          · have HAH : Hid (ahP (fn l) before f = before) := by show _ = _; subst hf0; rfl
            have gz : decide ((0 : Int) < (f : Int)) = false := by simp; omega
            have gz1 : ¬ (0 < f) := by omega
            have HF : Hid _ := hf0
            clear hf0 htf
            by_cases hE0 : before = after
            · have hE : (before == after) = true := by simpa using hE0
              clear hE0
              by_cases hS : sideB (before) = true
              ·
                have HR : Hid (among (ahP (fn l) before f) (bhP (fn l) n after (n - t)) lv = before) := by
                  show _ = _
                  rw [show n - t = 0 by omega, show bhP (fn l) n after 0 = after from rfl, HAH.out, ← among_as, HA0.out, HA1.out]
                  rw [if_pos ⟨by simpa using hE, hS⟩]
                have HS : Hid _ := hS
                clear hS
                go_wp2_with (first | (go_at_call 68; refine (specNo? _ _).mono ?_; rintro e w5 ⟨rfl, rfl⟩; rw [HT.out]) | (go_at_call 69; refine (specAs _ _).mono ?_; rintro e w5 ⟨rfl, rfl⟩) | (go_at_call 58; refine (specOwn _ _ h3).mono ?_; rintro e w5 ⟨rfl, rfl⟩) | (go_at_call 70; refine (specSide? _ _).mono ?_; rintro e w5 ⟨rfl, rfl⟩; rw [HS.out]))
                go_loopw [15] (fun q wv => ∃ (j : Nat) (L' : List Int), f ≤ j ∧ j ≤ t ∧ q = .int .i64 j ∧ OwnI wv w.heap.size (.slice (some ⟨g, 0, none⟩) n cp) L' ∧ Hid (∀ x, x < n → fn L' x = if f ≤ x ∧ x < j then before else fn L x) ∧ Below w.heap.size w wv) (fun q _ => t - (intOf q).toNat)
                case atStart => exact ⟨f, L, Nat.le_refl _, by omega, rfl, hown, fun x _ => by rw [if_neg (by omega)], hbel⟩
                case round =>
                  obtain ⟨j, L', hfj, hjt, rfl, hown', hL', hbel'⟩ := hrel
                  by_cases hjl : j < t
                  · have hfz : wr.frozen? ⟨g, j, none⟩ = false := hown'.frozenN j
                    have hcz : wr.cell? ⟨g, j, none⟩ = some (.int .i64 (fn L' j)) := hown'.cellN j (by omega)
                    have hji : (j : Int) < (t : Int) := by omega
                    have hjn : (j : Int) < (n : Int) := by omega
                    go_wp2_with fail
                    refine ⟨⟨j + 1, L'.set j (before), by omega, by omega, by go_num, hown'.storedN j _, fun x hx => ?_, hbel'.setCell hg _⟩, by simp only [intOf]; omega⟩
                    have e := hown'.len
                    by_cases ex : x = j
                    · subst ex; rw [fn_set_same (by omega), if_pos (by omega)]
                    · rw [fn_set_other (by omega), hL'.out x hx]
                      by_cases e2 : f ≤ x ∧ x < j
                      · rw [if_pos e2, if_pos (by omega)]
                      · rw [if_neg e2, if_neg (by omega)]
                  · have e : j = t := by omega
                    subst e
                    go_wp2_with fail
                    refine ⟨⟨j, L', by omega, rfl, hown', ?_, ?_, hbel'⟩, by simp only [intOf]; omega⟩
                    · refine done_step hinv.out (by omega) (by omega) hrun.out HR.out (fun x hx => ?_)
                      rw [hL'.out x hx, show f + (j - f) = j by omega]
                    · exact Or.inr (Or.inl (by omega))
              · have hS : sideB (before) = false := by simpa using hS
                have HR : Hid (among (ahP (fn l) before f) (bhP (fn l) n after (n - t)) lv = ownOf lv) := by
                  show _ = _
                  rw [show n - t = 0 by omega, show bhP (fn l) n after 0 = after from rfl, HAH.out, ← among_as, HA0.out, HA1.out]
                  rw [if_neg (fun h => by rw [h.2] at hS; cases hS)]
                have HS : Hid _ := hS
                clear hS
                go_wp2_with (first | (go_at_call 68; refine (specNo? _ _).mono ?_; rintro e w5 ⟨rfl, rfl⟩; rw [HT.out]) | (go_at_call 69; refine (specAs _ _).mono ?_; rintro e w5 ⟨rfl, rfl⟩) | (go_at_call 58; refine (specOwn _ _ h3).mono ?_; rintro e w5 ⟨rfl, rfl⟩) | (go_at_call 70; refine (specSide? _ _).mono ?_; rintro e w5 ⟨rfl, rfl⟩; rw [HS.out]))
                go_loopw [15] (fun q wv => ∃ (j : Nat) (L' : List Int), f ≤ j ∧ j ≤ t ∧ q = .int .i64 j ∧ OwnI wv w.heap.size (.slice (some ⟨g, 0, none⟩) n cp) L' ∧ Hid (∀ x, x < n → fn L' x = if f ≤ x ∧ x < j then ownOf lv else fn L x) ∧ Below w.heap.size w wv) (fun q _ => t - (intOf q).toNat)
                case atStart => exact ⟨f, L, Nat.le_refl _, by omega, rfl, hown, fun x _ => by rw [if_neg (by omega)], hbel⟩
                case round =>
                  obtain ⟨j, L', hfj, hjt, rfl, hown', hL', hbel'⟩ := hrel
                  by_cases hjl : j < t
                  · have hfz : wr.frozen? ⟨g, j, none⟩ = false := hown'.frozenN j
                    have hcz : wr.cell? ⟨g, j, none⟩ = some (.int .i64 (fn L' j)) := hown'.cellN j (by omega)
                    have hji : (j : Int) < (t : Int) := by omega
                    have hjn : (j : Int) < (n : Int) := by omega
                    go_wp2_with fail
                    refine ⟨⟨j + 1, L'.set j (ownOf lv), by omega, by omega, by go_num, hown'.storedN j _, fun x hx => ?_, hbel'.setCell hg _⟩, by simp only [intOf]; omega⟩
                    have e := hown'.len
                    by_cases ex : x = j
                    · subst ex; rw [fn_set_same (by omega), if_pos (by omega)]
                    · rw [fn_set_other (by omega), hL'.out x hx]
                      by_cases e2 : f ≤ x ∧ x < j
                      · rw [if_pos e2, if_pos (by omega)]
                      · rw [if_neg e2, if_neg (by omega)]
                  · have e : j = t := by omega
                    subst e
                    go_wp2_with fail
                    refine ⟨⟨j, L', by omega, rfl, hown', ?_, ?_, hbel'⟩, by simp only [intOf]; omega⟩
                    · refine done_step hinv.out (by omega) (by omega) hrun.out HR.out (fun x hx => ?_)
                      rw [hL'.out x hx, show f + (j - f) = j by omega]
                    · exact Or.inr (Or.inl (by omega))
            · have hE : (before == after) = false := by simpa using hE0
              clear hE0
              have HR : Hid (among (ahP (fn l) before f) (bhP (fn l) n after (n - t)) lv = ownOf lv) := by
                show _ = _
                rw [show n - t = 0 by omega, show bhP (fn l) n after 0 = after from rfl, HAH.out, ← among_as, HA0.out, HA1.out]
                rw [if_neg (fun h => by rw [h.1] at hE; simp at hE)]
              skip
              skip
              go_wp2_with (first | (go_at_call 68; refine (specNo? _ _).mono ?_; rintro e w5 ⟨rfl, rfl⟩; rw [HT.out]) | (go_at_call 69; refine (specAs _ _).mono ?_; rintro e w5 ⟨rfl, rfl⟩) | (go_at_call 58; refine (specOwn _ _ h3).mono ?_; rintro e w5 ⟨rfl, rfl⟩))
              go_loopw [15] (fun q wv => ∃ (j : Nat) (L' : List Int), f ≤ j ∧ j ≤ t ∧ q = .int .i64 j ∧ OwnI wv w.heap.size (.slice (some ⟨g, 0, none⟩) n cp) L' ∧ Hid (∀ x, x < n → fn L' x = if f ≤ x ∧ x < j then ownOf lv else fn L x) ∧ Below w.heap.size w wv) (fun q _ => t - (intOf q).toNat)
              case atStart => exact ⟨f, L, Nat.le_refl _, by omega, rfl, hown, fun x _ => by rw [if_neg (by omega)], hbel⟩
              case round =>
                obtain ⟨j, L', hfj, hjt, rfl, hown', hL', hbel'⟩ := hrel
                by_cases hjl : j < t
                · have hfz : wr.frozen? ⟨g, j, none⟩ = false := hown'.frozenN j
                  have hcz : wr.cell? ⟨g, j, none⟩ = some (.int .i64 (fn L' j)) := hown'.cellN j (by omega)
                  have hji : (j : Int) < (t : Int) := by omega
                  have hjn : (j : Int) < (n : Int) := by omega
                  go_wp2_with fail
                  refine ⟨⟨j + 1, L'.set j (ownOf lv), by omega, by omega, by go_num, hown'.storedN j _, fun x hx => ?_, hbel'.setCell hg _⟩, by simp only [intOf]; omega⟩
                  have e := hown'.len
                  by_cases ex : x = j
                  · subst ex; rw [fn_set_same (by omega), if_pos (by omega)]
                  · rw [fn_set_other (by omega), hL'.out x hx]
                    by_cases e2 : f ≤ x ∧ x < j
                    · rw [if_pos e2, if_pos (by omega)]
                    · rw [if_neg e2, if_neg (by omega)]
                · have e : j = t := by omega
                  subst e
                  go_wp2_with fail
                  refine ⟨⟨j, L', by omega, rfl, hown', ?_, ?_, hbel'⟩, by simp only [intOf]; omega⟩
                  · refine done_step hinv.out (by omega) (by omega) hrun.out HR.out (fun x hx => ?_)
                    rw [hL'.out x hx, show f + (j - f) = j by omega]
                  · exact Or.inr (Or.inl (by omega))
          · obtain ⟨p, rfl⟩ : ∃ p, f = p + 1 := ⟨f - 1, by omega⟩
            have hpz : noP (fn l p) = false := by
              rcases hedge.out with h | h | h | h
              · omega
              · omega
              · simpa using h
              · rw [htf] at h; cases h
            have HAH : Hid (ahP (fn l) before (p + 1) = fn l p) := ahP_hit hpz
            have cp0 : wo.cell? ⟨g, p, none⟩ = some (.int .i64 (fn l p)) := by rw [hown.cellN p (by omega), hinv.out.1 p (by omega), plain_other hpz]
            clear hf0 htf hpz
            by_cases hE0 : asB (fn l p) = after
            · have hE : (asB (fn l p) == after) = true := by simpa using hE0
              clear hE0
              by_cases hS : sideB (asB (fn l p)) = true
              ·
                have HR : Hid (among (ahP (fn l) before (p + 1)) (bhP (fn l) n after (n - t)) lv = asB (fn l p)) := by
                  show _ = _
                  rw [show n - t = 0 by omega, show bhP (fn l) n after 0 = after from rfl, HAH.out, ← among_as, HA1.out]
                  rw [if_pos ⟨by simpa using hE, hS⟩]
                have HS : Hid _ := hS
                clear hS
                go_wp2_with (first | (go_at_call 68; refine (specNo? _ _).mono ?_; rintro e w5 ⟨rfl, rfl⟩; rw [HT.out]) | (go_at_call 69; refine (specAs _ _).mono ?_; rintro e w5 ⟨rfl, rfl⟩) | (go_at_call 58; refine (specOwn _ _ h3).mono ?_; rintro e w5 ⟨rfl, rfl⟩) | (go_at_call 70; refine (specSide? _ _).mono ?_; rintro e w5 ⟨rfl, rfl⟩; rw [HS.out]))
                go_loopw [15] (fun q wv => ∃ (j : Nat) (L' : List Int), (p + 1) ≤ j ∧ j ≤ t ∧ q = .int .i64 j ∧ OwnI wv w.heap.size (.slice (some ⟨g, 0, none⟩) n cp) L' ∧ Hid (∀ x, x < n → fn L' x = if (p + 1) ≤ x ∧ x < j then asB (fn l p) else fn L x) ∧ Below w.heap.size w wv) (fun q _ => t - (intOf q).toNat)
                case atStart => exact ⟨(p + 1), L, Nat.le_refl _, by omega, rfl, hown, fun x _ => by rw [if_neg (by omega)], hbel⟩
                case round =>
                  obtain ⟨j, L', hfj, hjt, rfl, hown', hL', hbel'⟩ := hrel
                  by_cases hjl : j < t
                  · have hfz : wr.frozen? ⟨g, j, none⟩ = false := hown'.frozenN j
                    have hcz : wr.cell? ⟨g, j, none⟩ = some (.int .i64 (fn L' j)) := hown'.cellN j (by omega)
                    have hji : (j : Int) < (t : Int) := by omega
                    have hjn : (j : Int) < (n : Int) := by omega
                    go_wp2_with fail
                    refine ⟨⟨j + 1, L'.set j (asB (fn l p)), by omega, by omega, by go_num, hown'.storedN j _, fun x hx => ?_, hbel'.setCell hg _⟩, by simp only [intOf]; omega⟩
                    have e := hown'.len
                    by_cases ex : x = j
                    · subst ex; rw [fn_set_same (by omega), if_pos (by omega)]
                    · rw [fn_set_other (by omega), hL'.out x hx]
                      by_cases e2 : (p + 1) ≤ x ∧ x < j
                      · rw [if_pos e2, if_pos (by omega)]
                      · rw [if_neg e2, if_neg (by omega)]
                  · have e : j = t := by omega
                    subst e
                    go_wp2_with fail
                    refine ⟨⟨j, L', by omega, rfl, hown', ?_, ?_, hbel'⟩, by simp only [intOf]; omega⟩
                    · refine done_step hinv.out (by omega) (by omega) hrun.out HR.out (fun x hx => ?_)
                      rw [hL'.out x hx, show (p + 1) + (j - (p + 1)) = j by omega]
                    · exact Or.inr (Or.inl (by omega))
              · have hS : sideB (asB (fn l p)) = false := by simpa using hS
                have HR : Hid (among (ahP (fn l) before (p + 1)) (bhP (fn l) n after (n - t)) lv = ownOf lv) := by
                  show _ = _
                  rw [show n - t = 0 by omega, show bhP (fn l) n after 0 = after from rfl, HAH.out, ← among_as, HA1.out]
                  rw [if_neg (fun h => by rw [h.2] at hS; cases hS)]
                have HS : Hid _ := hS
                clear hS
                go_wp2_with (first | (go_at_call 68; refine (specNo? _ _).mono ?_; rintro e w5 ⟨rfl, rfl⟩; rw [HT.out]) | (go_at_call 69; refine (specAs _ _).mono ?_; rintro e w5 ⟨rfl, rfl⟩) | (go_at_call 58; refine (specOwn _ _ h3).mono ?_; rintro e w5 ⟨rfl, rfl⟩) | (go_at_call 70; refine (specSide? _ _).mono ?_; rintro e w5 ⟨rfl, rfl⟩; rw [HS.out]))
                go_loopw [15] (fun q wv => ∃ (j : Nat) (L' : List Int), (p + 1) ≤ j ∧ j ≤ t ∧ q = .int .i64 j ∧ OwnI wv w.heap.size (.slice (some ⟨g, 0, none⟩) n cp) L' ∧ Hid (∀ x, x < n → fn L' x = if (p + 1) ≤ x ∧ x < j then ownOf lv else fn L x) ∧ Below w.heap.size w wv) (fun q _ => t - (intOf q).toNat)
                case atStart => exact ⟨(p + 1), L, Nat.le_refl _, by omega, rfl, hown, fun x _ => by rw [if_neg (by omega)], hbel⟩
                case round =>
                  obtain ⟨j, L', hfj, hjt, rfl, hown', hL', hbel'⟩ := hrel
                  by_cases hjl : j < t
                  · have hfz : wr.frozen? ⟨g, j, none⟩ = false := hown'.frozenN j
                    have hcz : wr.cell? ⟨g, j, none⟩ = some (.int .i64 (fn L' j)) := hown'.cellN j (by omega)
                    have hji : (j : Int) < (t : Int) := by omega
                    have hjn : (j : Int) < (n : Int) := by omega
                    go_wp2_with fail
                    refine ⟨⟨j + 1, L'.set j (ownOf lv), by omega, by omega, by go_num, hown'.storedN j _, fun x hx => ?_, hbel'.setCell hg _⟩, by simp only [intOf]; omega⟩
                    have e := hown'.len
                    by_cases ex : x = j
                    · subst ex; rw [fn_set_same (by omega), if_pos (by omega)]
                    · rw [fn_set_other (by omega), hL'.out x hx]
                      by_cases e2 : (p + 1) ≤ x ∧ x < j
                      · rw [if_pos e2, if_pos (by omega)]
                      · rw [if_neg e2, if_neg (by omega)]
                  · have e : j = t := by omega
                    subst e
                    go_wp2_with fail
                    refine ⟨⟨j, L', by omega, rfl, hown', ?_, ?_, hbel'⟩, by simp only [intOf]; omega⟩
                    · refine done_step hinv.out (by omega) (by omega) hrun.out HR.out (fun x hx => ?_)
                      rw [hL'.out x hx, show (p + 1) + (j - (p + 1)) = j by omega]
                    · exact Or.inr (Or.inl (by omega))
            · have hE : (asB (fn l p) == after) = false := by simpa using hE0
              clear hE0
              have HR : Hid (among (ahP (fn l) before (p + 1)) (bhP (fn l) n after (n - t)) lv = ownOf lv) := by
                show _ = _
                rw [show n - t = 0 by omega, show bhP (fn l) n after 0 = after from rfl, HAH.out, ← among_as, HA1.out]
                rw [if_neg (fun h => by rw [h.1] at hE; simp at hE)]
              skip
              skip
              go_wp2_with (first | (go_at_call 68; refine (specNo? _ _).mono ?_; rintro e w5 ⟨rfl, rfl⟩; rw [HT.out]) | (go_at_call 69; refine (specAs _ _).mono ?_; rintro e w5 ⟨rfl, rfl⟩) | (go_at_call 58; refine (specOwn _ _ h3).mono ?_; rintro e w5 ⟨rfl, rfl⟩))
              go_loopw [15] (fun q wv => ∃ (j : Nat) (L' : List Int), (p + 1) ≤ j ∧ j ≤ t ∧ q = .int .i64 j ∧ OwnI wv w.heap.size (.slice (some ⟨g, 0, none⟩) n cp) L' ∧ Hid (∀ x, x < n → fn L' x = if (p + 1) ≤ x ∧ x < j then ownOf lv else fn L x) ∧ Below w.heap.size w wv) (fun q _ => t - (intOf q).toNat)
              case atStart => exact ⟨(p + 1), L, Nat.le_refl _, by omega, rfl, hown, fun x _ => by rw [if_neg (by omega)], hbel⟩
              case round =>
                obtain ⟨j, L', hfj, hjt, rfl, hown', hL', hbel'⟩ := hrel
                by_cases hjl : j < t
                · have hfz : wr.frozen? ⟨g, j, none⟩ = false := hown'.frozenN j
                  have hcz : wr.cell? ⟨g, j, none⟩ = some (.int .i64 (fn L' j)) := hown'.cellN j (by omega)
                  have hji : (j : Int) < (t : Int) := by omega
                  have hjn : (j : Int) < (n : Int) := by omega
                  go_wp2_with fail
                  refine ⟨⟨j + 1, L'.set j (ownOf lv), by omega, by omega, by go_num, hown'.storedN j _, fun x hx => ?_, hbel'.setCell hg _⟩, by simp only [intOf]; omega⟩
                  have e := hown'.len
                  by_cases ex : x = j
                  · subst ex; rw [fn_set_same (by omega), if_pos (by omega)]
                  · rw [fn_set_other (by omega), hL'.out x hx]
                    by_cases e2 : (p + 1) ≤ x ∧ x < j
                    · rw [if_pos e2, if_pos (by omega)]
                    · rw [if_neg e2, if_neg (by omega)]
                · have e : j = t := by omega
                  subst e
                  go_wp2_with fail
                  refine ⟨⟨j, L', by omega, rfl, hown', ?_, ?_, hbel'⟩, by simp only [intOf]; omega⟩
                  · refine done_step hinv.out (by omega) (by omega) hrun.out HR.out (fun x hx => ?_)
                    rw [hL'.out x hx, show (p + 1) + (j - (p + 1)) = j by omega]
                  · exact Or.inr (Or.inl (by omega))
    · have e : f = n := by omega
      subst e
      go_wp2_with fail
      go_ret
      have el : L = plainL l before after lv := by
        refine ext_fn (by rw [plainL_len, hn.out]; exact hown.len) (fun j hj => ?_)
        have hjn : j < f := by rw [← hown.len]; exact hj
        rw [fn_plainL (by rw [hn.out]; exact hjn), hn.out]; exact hinv.out.1 j hjn
      rw [el] at hown
      exact ⟨⟨_, rfl, hown⟩, hbel⟩
end Go.Proofs.YtgojdlbidjnmmabGreat
namespace Go.Proofs.YtgojdlbidjnmmabGreat
open Go.ChangeShapes Go.WideShapes Go.ChangeAt Go.RowKit
set_option linter.unusedSimpArgs false

set_option maxHeartbeats 1000000 in
theorem specStrong (g n cp : Nat) (x : Nat → Int) (b : Int) (f : Nat) (w : World) (hc : Hid (∀ j, j < n → w.cell? ⟨g, j, none⟩ = some (.int .i64 (x j)))) (hf : f < n) (hl : n ≤ 80) :
    Calls Tryz.prog 62 #[.slice (some ⟨g, 0, none⟩) n cp, .int .i64 f, .int .i64 b] w fun e w' => e = .returned (.int .i64 (strong x b (f + 1))) ∧ w' = w := by
  go_enter Tryz.func62, Tryz.ntmps62
  go_wp2
  go_loop [7] (fun i => ∃ k : Nat, k ≤ f + 1 ∧ i = .int .i64 ((k : Int) - 1) ∧ Hid (strong x b (f + 1) = strong x b k)) (fun i => (intOf i + 1).toNat)
  case atStart => exact ⟨f + 1, Nat.le_refl _, by go_num, rfl⟩
  case round =>
    obtain ⟨k, hk, rfl, hst⟩ := hrel
    cases k with
    | zero =>
      go_wp2
      go_ret
      exact ⟨retInt hst.out.symm, rfl⟩
    | succ j =>
      have c := hc.out j (by omega)
      have ej : ((j + 1 : Nat) : Int) - 1 = (j : Int) := by omega
      rw [ej]
      have hs2 : strong x b (j + 1) = if x j = 1 ∨ x j = 2 ∨ x j = 3 then x j else strong x b j := rfl
      by_cases h123 : x j = 1 ∨ x j = 2 ∨ x j = 3
      · rw [if_pos h123] at hs2
        have HS : Hid (strong x b (f + 1) = x j) := hst.out.trans hs2
        clear hs2 ej
        obtain ⟨X, hX⟩ : ∃ X, x j = X := ⟨_, rfl⟩
        rw [hX] at c h123
        have HX : Hid _ := hX
        clear hX
        rcases h123 with rfl | rfl | rfl
        all_goals
          go_wp2
          go_ret
          exact ⟨retInt (by rw [HS.out, HX.out]), rfl⟩
      · rw [if_neg h123] at hs2
        have HS : Hid (strong x b (f + 1) = strong x b j) := hst.out.trans hs2
        have g1 : (x j == 1) = false := by simp; omega
        have g2 : (x j == 2) = false := by simp; omega
        have g3 : (x j == 3) = false := by simp; omega
        clear hs2 ej h123
        go_wp2
        go_round
        case rel => exact ⟨j, by omega, by go_num, HS⟩
        case measure => simp only [intOf]; omega

set_option maxHeartbeats 1000000 in
theorem specR1 (g n cp B : Nat) (b : Int) (hb : Hid (b = 1 ∨ b = 2)) (l : List Int) (w : World) (hn : Hid (l.length = n)) (hv : OwnI w B (.slice (some ⟨g, 0, none⟩) n cp) l) (hl : n ≤ 80) :
    Calls Tryz.prog 61 #[.slice (some ⟨g, 0, none⟩) n cp, .int .i64 b] w fun e w' => e = .returned (.tuple #[]) ∧ Ruled w w' B g n cp (r1 l b) := by
  have HR : Hid (r1 l b = mkL n (m1 (fn l) b)) := by show _ = _; unfold r1; rw [hn.out]
  rw [HR.out]
  have HS : Hid (Ruling w w B g n cp 0 (m1 (fn l) b) (fn l)) := Ruling.start hv
  go_enter Tryz.func61, Tryz.ntmps61
  go_wp2
  go_loopw [4] (fun i wr => ∃ f : Nat, f ≤ n ∧ i = .int .i64 f ∧ Hid (Ruling w wr B g n cp f (m1 (fn l) b) (fn l))) (fun i _ => n - (intOf i).toNat)
  case atStart => exact ⟨0, Nat.zero_le _, rfl, HS⟩
  case round =>
    obtain ⟨f, hf, rfl, hr⟩ := hrel
    by_cases hlt : f < n
    · have c := hr.out.cell (Nat.le_refl _) hlt
      have fz := hr.out.free f
      by_cases e9 : fn l f = 9
      · have hst := m1_step hb.out e9
        rw [e9] at c
        cases f with
        | zero =>
          have hm : m1 (fn l) b 0 = b := by show (if _ then _ else _) = _; rw [if_pos e9]
          have HM : Hid _ := hm
          clear hst e9 hm
          go_wp2
          go_roundw
          case rel => exact ⟨1, by omega, by go_num, hr.out.set hlt HM.out⟩
          case measure => simp only [intOf]; omega
        | succ k =>
          have cA := hr.out.done (j := k) (by omega) (by omega)
          have hk0 : ((k : Int) + 1 == 0) = false := by simp; omega
          obtain ⟨A, hA⟩ : ∃ A, m1 (fn l) b k = A := ⟨_, rfl⟩
          have hA' : ahM (fn l) b (k + 1) = A := hA
          rw [hA'] at hst
          rw [hA] at cA
          clear e9 hA hA'
          by_cases ho : opensB A = true
          · rw [if_pos (.inl ho)] at hst
            have HM : Hid _ := hst
            have HO : Hid _ := ho
            clear ho hst
            go_wp2_with (go_at_call 59; refine (specOpens _ _).mono ?_; rintro e w' ⟨rfl, rfl⟩; rw [HO.out])
            go_roundw
            case rel => exact ⟨k + 1 + 1, by omega, by go_num, hr.out.set hlt HM.out⟩
            case measure => simp only [intOf]; omega
          · have ho' : opensB A = false := by simpa using ho
            have HO : Hid _ := ho'
            by_cases h22 : A = 22
            · rw [if_pos (.inr h22)] at hst
              have HM : Hid _ := hst
              subst h22
              clear ho ho' hst
              go_wp2_with (go_at_call 59; refine (specOpens _ _).mono ?_; rintro e w' ⟨rfl, rfl⟩; rw [HO.out])
              go_roundw
              case rel => exact ⟨k + 1 + 1, by omega, by go_num, hr.out.set hlt HM.out⟩
              case measure => simp only [intOf]; omega
            · rw [if_neg (by simp [ho', h22])] at hst
              have HM : Hid _ := hst
              have g22 : (A == 22) = false := by simpa using h22
              clear ho ho' hst h22
              go_wp2_with (go_at_call 59; refine (specOpens _ _).mono ?_; rintro e w' ⟨rfl, rfl⟩; rw [HO.out])
              go_roundw
              case rel => exact ⟨k + 1 + 1, by omega, by go_num, hr.out.set hlt HM.out⟩
              case measure => simp only [intOf]; omega
      · have g9 : (fn l f != 9) = true := by simpa using e9
        have hk := m1_keep (b := b) e9
        have HK : Hid _ := hk
        clear e9 hk
        go_wp2
        go_roundw
        case rel => exact ⟨f + 1, by omega, by go_num, hr.out.keep hlt HK.out⟩
        case measure => simp only [intOf]; omega
    · have e : f = n := by omega
      subst e
      go_wp2
      go_end0
      exact ⟨rfl, hr.out.fin⟩

set_option maxHeartbeats 2000000 in
theorem specR4 (g n cp B : Nat) (l : List Int) (w : World) (hn : Hid (l.length = n)) (hv : OwnI w B (.slice (some ⟨g, 0, none⟩) n cp) l) (hn0 : 0 < n) (hl : n ≤ 80) :
    Calls Tryz.prog 63 #[.slice (some ⟨g, 0, none⟩) n cp] w fun e w' => e = .returned (.tuple #[]) ∧ Ruled w w' B g n cp (r4 l) := by
  have HR : Hid (r4 l = mkL n (m4 (fn l) n)) := by show _ = _; unfold r4; rw [hn.out]
  rw [HR.out]
  have HS : Hid (Ruling w w B g n cp 1 (m4 (fn l) n) (fn l)) := Ruling.keep (Ruling.start hv) hn0 rfl
  go_enter Tryz.func63, Tryz.ntmps63
  go_wp2
  go_loopw [2] (fun i wr => ∃ k : Nat, k + 1 ≤ n ∧ i = .int .i64 ((k : Int) + 1) ∧ Hid (Ruling w wr B g n cp (k + 1) (m4 (fn l) n) (fn l))) (fun i _ => n - (intOf i).toNat)
  case atStart => exact ⟨0, by omega, rfl, HS⟩
  case round =>
    obtain ⟨k, hk, rfl, hr⟩ := hrel
    by_cases hlt : k + 2 < n
    · have cA := hr.out.done (j := k) (by omega) (by omega)
      have cC := hr.out.cell (j := k + 1) (by omega) (by omega)
      have cD := hr.out.cell (j := k + 2) (by omega) (by omega)
      have fz := hr.out.free (k + 1)
      have HT := fun h => m4_take (z := fn l) (n := n) (k := k) hlt h
      have HK := fun h => m4_keep (z := fn l) (n := n) (k := k) h
      obtain ⟨A, hA⟩ : ∃ A, m4 (fn l) n k = A := ⟨_, rfl⟩
      obtain ⟨C, hC⟩ : ∃ A, fn l (k + 1) = A := ⟨_, rfl⟩
      obtain ⟨D, hD⟩ : ∃ A, fn l (k + 2) = A := ⟨_, rfl⟩
      rw [hA] at cA
      rw [hC] at cC
      rw [hD] at cD
      rw [hA, hC, hD] at HT HK
      have HC : Hid _ := hC
      have HT2 : Hid _ := HT
      have HK2 : Hid _ := HK
      clear hA hC hD HT HK
      have hi1 : ((k : Int) + 1 + 1 < (n : Int)) := by omega
      have hi2 : ((k : Int) + 1 < (n : Int)) := by omega
      have hi3 : ((k : Int) < (n : Int)) := by omega
      by_cases hAD : A = D
      · subst hAD
        have gAD : (A != A) = false := by simp
        by_cases hb : btw A C A = true
        · have hm := HT2.out hb
          have HM : Hid _ := hm
          unfold btw at hb
          rw [decide_eq_true_eq] at hb
          clear HT2 HK2 hm gAD
          rcases hb.2 with ⟨rfl, rfl | rfl⟩ | ⟨rfl, rfl⟩
          all_goals
            clear hb
            go_wp2
            go_roundw
            case rel => exact ⟨k + 1, by omega, by go_num, hr.out.set (by omega) HM.out⟩
            case measure => simp only [intOf]; omega
        · have hb' : btw A C A = false := by simpa using hb
          have hm := HK2.out hb'
          have HM : Hid (m4 (fn l) n (k + 1) = fn l (k + 1)) := by show _ = _; rw [hm, HC.out]
          unfold btw at hb'
          rw [decide_eq_false_iff_not] at hb'
          clear HT2 HK2 hm hb
          by_cases e4 : A = 4
          · subst e4
            have g5 : (C == 5) = false := by simp; omega
            have g8 : (C == 8) = false := by simp; omega
            clear hb'
            go_wp2
            go_roundw
            case rel => exact ⟨k + 1, by omega, by go_num, hr.out.keep (by omega) HM.out⟩
            case measure => simp only [intOf]; omega
          · have g4 : (A == 4) = false := by simpa using e4
            by_cases e7 : A = 7
            · subst e7
              have g8 : (C == 8) = false := by simp; omega
              clear hb' e4
              go_wp2
              go_roundw
              case rel => exact ⟨k + 1, by omega, by go_num, hr.out.keep (by omega) HM.out⟩
              case measure => simp only [intOf]; omega
            · have g7 : (A == 7) = false := by simpa using e7
              clear hb' e4 e7
              go_wp2
              go_roundw
              case rel => exact ⟨k + 1, by omega, by go_num, hr.out.keep (by omega) HM.out⟩
              case measure => simp only [intOf]; omega
      · have gAD : (A != D) = true := by simpa using hAD
        have hm := HK2.out (by unfold btw; rw [decide_eq_false_iff_not]; exact fun h => hAD h.1)
        have HM : Hid (m4 (fn l) n (k + 1) = fn l (k + 1)) := by show _ = _; rw [hm, HC.out]
        clear HT2 HK2 hm hAD
        go_wp2
        go_roundw
        case rel => exact ⟨k + 1, by omega, by go_num, hr.out.keep (by omega) HM.out⟩
        case measure => simp only [intOf]; omega
    · have hi1 : ¬ ((k : Int) + 1 + 1 < (n : Int)) := by omega
      have hfin : Ruling w wr B g n cp n (m4 (fn l) n) (fn l) := by
        by_cases e : k + 1 = n
        · rw [← e]; rw [← e] at hr; exact hr.out
        · have := hr.out.keep (by omega) (m4_end (z := fn l) hlt)
          rwa [show k + 1 + 1 = n by omega] at this
      have HF : Hid _ := hfin
      clear hfin
      go_wp2
      go_end0
      exact ⟨rfl, Ruling.fin (m := m4 (fn l) n) (z := fn l) HF.out⟩
end Go.Proofs.YtgojdlbidjnmmabGreat
namespace Go.Proofs.YtgojdlbidjnmmabGreat
open Go.ChangeShapes Go.WideShapes Go.ChangeAt Go.RowKit
set_option linter.unusedSimpArgs false

/-- Signs beside figures: the row is done up to t, and what is done ahead of the place is figures. -/
def Beside (w wr : World) (B g n cp f : Nat) (z : Nat → Int) : Prop :=
  ∃ t, f ≤ t ∧ t ≤ n ∧ Ruling w wr B g n cp t (m5 z n) z ∧ ∀ j, f ≤ j → j < t → m5 z n j = 4

set_option maxRecDepth 10000 in
set_option maxHeartbeats 4000000 in
theorem specR5 (g n cp B : Nat) (l : List Int) (w : World) (hn : Hid (l.length = n)) (hv : OwnI w B (.slice (some ⟨g, 0, none⟩) n cp) l) (hl : n ≤ 80) :
    Calls Tryz.prog 64 #[.slice (some ⟨g, 0, none⟩) n cp] w fun e w' => e = .returned (.tuple #[]) ∧ Ruled w w' B g n cp (r5 l) := by
  have HR : Hid (r5 l = mkL n (m5 (fn l) n)) := by show _ = _; unfold r5; rw [hn.out]
  rw [HR.out]
  have HS : Hid (Ruling w w B g n cp 0 (m5 (fn l) n) (fn l)) := Ruling.start hv
  go_enter Tryz.func64, Tryz.ntmps64
  go_wp2
  go_loopw [2] (fun i wr => ∃ f : Nat, f ≤ n ∧ i = .int .i64 f ∧ Hid (Beside w wr B g n cp f (fn l))) (fun i _ => n - (intOf i).toNat)
  case atStart => exact ⟨0, Nat.zero_le _, rfl, ⟨0, Nat.le_refl _, Nat.zero_le _, HS.out, fun j h1 h2 => by omega⟩⟩
  case round =>
    obtain ⟨f, hf, rfl, hbs⟩ := hrel
    obtain ⟨wo, rfl⟩ : ∃ wo : World, wo = wr := ⟨_, rfl⟩
    obtain ⟨t0, h0a, h0b, h0c, h0d⟩ := hbs.out
    by_cases hlt : f < n
    · have hfi : (f : Int) < (n : Int) := by omega
      by_cases hin : f < t0
      · have c := h0c.done (j := f) hin hlt
        rw [h0d f (Nat.le_refl _) hin] at c
        have HN : Hid (Beside w wo B g n cp (f + 1) (fn l)) := ⟨t0, by omega, h0b, h0c, fun j h1 h2 => h0d j (by omega) h2⟩
        clear h0a h0b h0c h0d hbs
        go_wp2
        go_roundw
        case rel => exact ⟨f + 1, by omega, by go_num, HN⟩
        case measure => simp only [intOf]; omega
      · have et : t0 = f := by omega
        rw [et] at h0c
        have hr : Hid (Ruling w wo B g n cp f (m5 (fn l) n) (fn l)) := h0c
        clear h0a h0b h0c h0d hbs hin et
        have c := hr.out.cell (Nat.le_refl _) hlt
        by_cases e6 : fn l f = 6
        · rw [e6] at c
          have H6 : Hid _ := e6
          clear e6
          go_wp2
          go_loop [3] (fun t => ∃ (t' : Nat), f ≤ t' ∧ t' ≤ n ∧ t = .int .i64 t' ∧ Hid (∀ j, f ≤ j → j < t' → fn l j = 6)) (fun t => n - (intOf t).toNat)
          case atStart => exact ⟨f, Nat.le_refl _, by omega, by go_num, fun j h1 h2 => by omega⟩
          case round =>
            obtain ⟨t, hft0, htn, rfl, hrun⟩ := hrel
            by_cases hmore : t < n ∧ fn l t = 6
            · obtain ⟨htl, e6⟩ := hmore
              have ct := hr.out.cell (j := t) (by omega) htl
              rw [e6] at ct
              have hti : (t : Int) < (n : Int) := by omega
              have H6t : Hid _ := e6
              clear e6
              go_wp2
              refine ⟨⟨t + 1, by omega, by omega, by go_num, fun j h1 h2 => ?_⟩, by simp only [intOf]; omega⟩
              by_cases e : j = t
              · subst e; exact H6t.out
              · exact hrun.out j h1 (by omega)
            · have hend : t = n ∨ fn l t ≠ 6 := by omega
              have hft : f < t := by
                rcases Nat.lt_or_ge f t with h | h
                · exact h
                · exfalso
                  have : t = f := by omega
                  subst this
                  exact hmore ⟨hlt, H6.out⟩
              have hc := m5_cond (z := fn l) (n := n) hft htn hrun.out hend
              by_cases hcnd : (0 < f ∧ m5 (fn l) n (f - 1) = 4) ∨ (t < n ∧ fn l t = 4)
              · have h4 : Hid (∀ j, f ≤ j → j < t → m5 (fn l) n j = 4) := fun j h1 h2 => by rw [m5_same htn hrun.out h1 h2]; exact hc.1 hcnd
                have HFIL : Hid (∀ p, p < t → f ≤ p → ∀ wr', Ruling w wr' B g n cp p (m5 (fn l) n) (fn l) → Ruling w (wr'.setCell ⟨g, p, none⟩ (.int .i64 4)) B g n cp (p + 1) (m5 (fn l) n) (fn l)) := fun p h1 h2 wr' h => h.set (by omega) (h4.out p h2 h1)
                have HEND : Hid (∀ wr', Ruling w wr' B g n cp t (m5 (fn l) n) (fn l) → Beside w wr' B g n cp (f + 1) (fn l)) := fun wr' h => ⟨t, by omega, htn, h, fun j h1 h2 => h4.out j (by omega) h2⟩
                clear hc
                by_cases hA : 0 < f ∧ m5 (fn l) n (f - 1) = 4
                · obtain ⟨hf0, hA4⟩ := hA
                  have cp1 := hr.out.done (j := f - 1) (by omega) (by omega)
                  rw [hA4] at cp1
                  obtain ⟨k, rfl⟩ : ∃ k, f = k + 1 := ⟨f - 1, by omega⟩
                  simp only [Nat.add_sub_cancel] at cp1
                  have hk0 : (0 : Int) < (k : Int) + 1 := by omega
                  clear hcnd hA4
                  by_cases htl : t < n
                  · have ct := hr.out.cell (j := t) (by omega) htl
                    have hti : (t : Int) < (n : Int) := by omega
                    have g6 : (fn l t == 6) = false := by simp; omega
                    clear hmore hend
                    go_wp2
                    go_loopw [4] (fun i wr => ∃ p : Nat, k + 1 ≤ p ∧ p ≤ t ∧ i = .int .i64 p ∧ Hid (Ruling w wr B g n cp p (m5 (fn l) n) (fn l))) (fun i _ => t - (intOf i).toNat)
                    case atStart => exact ⟨k + 1, Nat.le_refl _, by omega, by go_num, hr⟩
                    case round =>
                      obtain ⟨p, hp1, hp2, rfl, hp⟩ := hrel
                      by_cases hpt : p < t
                      · have cc := hp.out.cell (Nat.le_refl _) (show p < n by omega)
                        have ff := hp.out.free p
                        go_wp2
                        go_roundw
                        case rel => exact ⟨p + 1, by omega, by omega, by go_num, HFIL.out p hpt hp1 _ hp.out⟩
                        case measure => simp only [intOf]; omega
                      · have e : p = t := by omega
                        subst e
                        go_wp2
                        refine ⟨⟨k + 1 + 1, by omega, by go_num, HEND.out _ hp.out⟩, by simp only [intOf]; omega⟩
                  · have hti : ¬ (t : Int) < (n : Int) := by omega
                    clear hmore hend
                    go_wp2
                    go_loopw [4] (fun i wr => ∃ p : Nat, k + 1 ≤ p ∧ p ≤ t ∧ i = .int .i64 p ∧ Hid (Ruling w wr B g n cp p (m5 (fn l) n) (fn l))) (fun i _ => t - (intOf i).toNat)
                    case atStart => exact ⟨k + 1, Nat.le_refl _, by omega, by go_num, hr⟩
                    case round =>
                      obtain ⟨p, hp1, hp2, rfl, hp⟩ := hrel
                      by_cases hpt : p < t
                      · have cc := hp.out.cell (Nat.le_refl _) (show p < n by omega)
                        have ff := hp.out.free p
                        go_wp2
                        go_roundw
                        case rel => exact ⟨p + 1, by omega, by omega, by go_num, HFIL.out p hpt hp1 _ hp.out⟩
                        case measure => simp only [intOf]; omega
                      · have e : p = t := by omega
                        subst e
                        go_wp2
                        refine ⟨⟨k + 1 + 1, by omega, by go_num, HEND.out _ hp.out⟩, by simp only [intOf]; omega⟩
                · obtain ⟨htl, e4⟩ : t < n ∧ fn l t = 4 := by
                    rcases hcnd with h | h
                    · exact absurd h hA
                    · exact h
                  have ct := hr.out.cell (j := t) (by omega) htl
                  rw [e4] at ct
                  have hti : (t : Int) < (n : Int) := by omega
                  clear hmore hend hcnd e4
                  by_cases hf0 : f = 0
                  · subst hf0
                    clear hA
                    go_wp2
                    go_loopw [4] (fun i wr => ∃ p : Nat, 0 ≤ p ∧ p ≤ t ∧ i = .int .i64 p ∧ Hid (Ruling w wr B g n cp p (m5 (fn l) n) (fn l))) (fun i _ => t - (intOf i).toNat)
                    case atStart => exact ⟨0, Nat.le_refl _, by omega, by go_num, hr⟩
                    case round =>
                      obtain ⟨p, hp1, hp2, rfl, hp⟩ := hrel
                      by_cases hpt : p < t
                      · have cc := hp.out.cell (Nat.le_refl _) (show p < n by omega)
                        have ff := hp.out.free p
                        go_wp2
                        go_roundw
                        case rel => exact ⟨p + 1, by omega, by omega, by go_num, HFIL.out p hpt hp1 _ hp.out⟩
                        case measure => simp only [intOf]; omega
                      · have e : p = t := by omega
                        subst e
                        go_wp2
                        refine ⟨⟨1, by omega, by go_num, HEND.out _ hp.out⟩, by simp only [intOf]; omega⟩
                  · have cp1 := hr.out.done (j := f - 1) (by omega) (by omega)
                    obtain ⟨P, hP⟩ : ∃ P, m5 (fn l) n (f - 1) = P := ⟨_, rfl⟩
                    have gP : (P == 4) = false := by simp; rw [← hP]; intro h; exact hA ⟨by omega, h⟩
                    rw [hP] at cp1
                    clear hA hP
                    obtain ⟨k, rfl⟩ : ∃ k, f = k + 1 := ⟨f - 1, by omega⟩
                    simp only [Nat.add_sub_cancel] at cp1
                    have hk0 : (0 : Int) < (k : Int) + 1 := by omega
                    go_wp2
                    go_loopw [4] (fun i wr => ∃ p : Nat, k + 1 ≤ p ∧ p ≤ t ∧ i = .int .i64 p ∧ Hid (Ruling w wr B g n cp p (m5 (fn l) n) (fn l))) (fun i _ => t - (intOf i).toNat)
                    case atStart => exact ⟨k + 1, Nat.le_refl _, by omega, by go_num, hr⟩
                    case round =>
                      obtain ⟨p, hp1, hp2, rfl, hp⟩ := hrel
                      by_cases hpt : p < t
                      · have cc := hp.out.cell (Nat.le_refl _) (show p < n by omega)
                        have ff := hp.out.free p
                        go_wp2
                        go_roundw
                        case rel => exact ⟨p + 1, by omega, by omega, by go_num, HFIL.out p hpt hp1 _ hp.out⟩
                        case measure => simp only [intOf]; omega
                      · have e : p = t := by omega
                        subst e
                        go_wp2
                        refine ⟨⟨k + 1 + 1, by omega, by go_num, HEND.out _ hp.out⟩, by simp only [intOf]; omega⟩
              · have h6 : Hid (Beside w wo B g n cp (f + 1) (fn l)) := ⟨f + 1, Nat.le_refl _, by omega, hr.out.keep hlt (by
                  rcases m5_46 (z := fn l) (n := n) H6.out with h | h
                  · exact absurd (hc.2 h) hcnd
                  · rw [h, H6.out]), fun j h1 h2 => by omega⟩
                clear hc
                by_cases htl : t < n
                · have ct := hr.out.cell (j := t) (by omega) htl
                  have hti : (t : Int) < (n : Int) := by omega
                  have g6 : (fn l t == 6) = false := by simp; omega
                  have g4 : (fn l t == 4) = false := by simp; intro h; exact hcnd (.inr ⟨htl, h⟩)
                  by_cases hf0 : f = 0
                  · subst hf0
                    clear hmore hend hcnd
                    go_wp2
                    refine ⟨⟨1, by omega, by go_num, h6⟩, by simp only [intOf]; omega⟩
                  · have cp1 := hr.out.done (j := f - 1) (by omega) (by omega)
                    obtain ⟨P, hP⟩ : ∃ P, m5 (fn l) n (f - 1) = P := ⟨_, rfl⟩
                    have gP : (P == 4) = false := by simp; rw [← hP]; intro h; exact hcnd (.inl ⟨by omega, h⟩)
                    rw [hP] at cp1
                    clear hP hmore hend hcnd
                    obtain ⟨k, rfl⟩ : ∃ k, f = k + 1 := ⟨f - 1, by omega⟩
                    simp only [Nat.add_sub_cancel] at cp1
                    have hk0 : (0 : Int) < (k : Int) + 1 := by omega
                    go_wp2
                    refine ⟨⟨k + 1 + 1, by omega, by go_num, h6⟩, by simp only [intOf]; omega⟩
                · have hti : ¬ (t : Int) < (n : Int) := by omega
                  by_cases hf0 : f = 0
                  · subst hf0
                    clear hmore hend hcnd
                    go_wp2
                    refine ⟨⟨1, by omega, by go_num, h6⟩, by simp only [intOf]; omega⟩
                  · have cp1 := hr.out.done (j := f - 1) (by omega) (by omega)
                    obtain ⟨P, hP⟩ : ∃ P, m5 (fn l) n (f - 1) = P := ⟨_, rfl⟩
                    have gP : (P == 4) = false := by simp; rw [← hP]; intro h; exact hcnd (.inl ⟨by omega, h⟩)
                    rw [hP] at cp1
                    clear hP hmore hend hcnd
                    obtain ⟨k, rfl⟩ : ∃ k, f = k + 1 := ⟨f - 1, by omega⟩
                    simp only [Nat.add_sub_cancel] at cp1
                    have hk0 : (0 : Int) < (k : Int) + 1 := by omega
                    go_wp2
                    refine ⟨⟨k + 1 + 1, by omega, by go_num, h6⟩, by simp only [intOf]; omega⟩
        · have g6 : (fn l f != 6) = true := by simpa using e6
          have HK : Hid (Beside w wo B g n cp (f + 1) (fn l)) := ⟨f + 1, Nat.le_refl _, by omega, hr.out.keep hlt (m5_not (z := fn l) (n := n) e6), fun j h1 h2 => by omega⟩
          clear e6
          go_wp2
          go_roundw
          case rel => exact ⟨f + 1, by omega, by go_num, HK⟩
          case measure => simp only [intOf]; omega
    · have HF : Hid (Ruled w wo B g n cp (mkL n (m5 (fn l) n))) := by
        show Ruled _ _ _ _ _ _ _
        have : t0 = n := by omega
        rw [this] at h0c
        exact h0c.fin
      have e : f = n := by omega
      subst e
      clear h0a h0b h0c h0d
      go_wp2
      go_end0
      exact ⟨rfl, HF.out⟩
end Go.Proofs.YtgojdlbidjnmmabGreat
namespace Go.Proofs.YtgojdlbidjnmmabGreat
open Go.ChangeShapes Go.WideShapes Go.ChangeAt Go.RowKit
set_option linter.unusedSimpArgs false

theorem strong_cong {x z : Nat → Int} {b : Int} {k : Nat} (h : ∀ j, j < k → x j = z j ∨ (z j = 4 ∧ x j = 7)) : strong x b k = strong z b k := by
  induction k with
  | zero => rfl
  | succ k ih =>
    have ih := ih (fun j hj => h j (by omega))
    simp only [strong]
    rcases h k (by omega) with e | ⟨e1, e2⟩
    · rw [e, ih]
    · rw [e1, e2, if_neg (by omega), if_neg (by omega), ih]
theorem strong_next {x : Nat → Int} {b : Int} {f : Nat} (h : x f = 4) : strong x b (f + 1) = strong x b f := by
  simp only [strong]; rw [if_neg (by omega)]
theorem m2_is {z : Nat → Int} {b : Int} {j : Nat} : m2 z b j = z j ∨ (z j = 4 ∧ m2 z b j = 7) := by
  unfold m2; split
  · rename_i h; exact .inr ⟨h.1, rfl⟩
  · exact .inl rfl
/-- What the row in work says of the last strong class is what the row says. -/
theorem Ruling.strong2 {w wr : World} {B g n cp f : Nat} {z : Nat → Int} {b : Int} (h : Ruling w wr B g n cp f (m2 z b) z) (hf : f < n) (h4 : z f = 4) :
    ∃ x : Nat → Int, (∀ j, j < n → wr.cell? ⟨g, j, none⟩ = some (.int .i64 (x j))) ∧ strong x b (f + 1) = strong z b f := by
  obtain ⟨L, a, u, _⟩ := h
  refine ⟨fn L, fun j hj => a.cellN j hj, ?_⟩
  rw [strong_next (by rw [u.2 f (Nat.le_refl _) hf]; exact h4)]
  exact strong_cong (fun j hj => by rw [u.1 j hj]; exact m2_is)
theorem Ruling.strong7 {w wr : World} {B g n cp f : Nat} {z : Nat → Int} {b : Int} (h : Ruling w wr B g n cp f (m7 z b) z) (hf : f < n) (h4 : z f = 4) :
    ∃ x : Nat → Int, (∀ j, j < n → wr.cell? ⟨g, j, none⟩ = some (.int .i64 (x j))) ∧ strong x b (f + 1) = strong z b f := by
  obtain ⟨L, a, u, _⟩ := h
  refine ⟨fn L, fun j hj => a.cellN j hj, ?_⟩
  rw [strong_next (by rw [u.2 f (Nat.le_refl _) hf]; exact h4)]
  exact strong_m7 (n := f) (fun j hj => u.1 j hj) f (Nat.le_refl _)
/-- Where a rule has come to, seen from the beginning. -/
structure Come (w wr : World) (g n cp : Nat) (L : List Int) : Prop where
  own : OwnI wr w.heap.size (.slice (some ⟨g, 0, none⟩) n cp) L
  bel : Below w.heap.size w wr
theorem Come.next {w wr w' : World} {g n cp : Nat} {L L' : List Int} (h : Come w wr g n cp L) (hr : Ruled wr w' w.heap.size g n cp L') (hg : w.heap.size ≤ g) : Come w w' g n cp L' :=
  ⟨hr.1, h.bel.grown hr.2.1 h.bel.size (fun k hk => by cases hk; exact hg)⟩

set_option maxRecDepth 10000 in
set_option maxHeartbeats 8000000 in
theorem specWeak_row (ba off cap n : Nat) (l : List Int) (b : Int) (w : World) (hn : Hid (l.length = n)) (hn0 : 0 < n) (hl : n ≤ 80) (hb : ba < w.heap.size) (hat : At w ba off l) (h1 : Hid (sideB b = true)) :
    Calls Tryz.prog 40 #[.slice (some ⟨ba, off, none⟩) n cap, .int .i64 b] w fun e w' => (∃ v', e = .returned v' ∧ OwnI w' w.heap.size v' (weakL l b)) ∧ Below w.heap.size w w' := by
  have ho := own_empty w w.heap.size 3 (Nat.le_refl _) rfl
  have hat2 : At (w.alloc (.cells #[] 3)) ba off l := hat.below (B := w.heap.size) ((Below.refl _ _).alloc (Nat.le_refl _) _) hb
  have HB12 : Hid (b = 1 ∨ b = 2) := by
    show b = 1 ∨ b = 2
    have := h1.out
    unfold sideB at this
    exact of_decide_eq_true this
  have HLEN : Hid (∀ k, (stg l b k).length = n) := fun k => by rw [stg_len, hn.out]
  go_enter Tryz.func40, Tryz.ntmps40
  go_wp2_with (at_builtin; refine own_appendAll (.tmp 10) (.tmp 11) ho hn.out (by simp; omega) (by simp) hat2 rfl rfl rfl rfl ?_; intro v4 w4 o4 gr4; have tok : True := trivial)
  have b4 : Below w.heap.size w w4 := by
    refine ((Below.refl _ _).alloc (Nat.le_refl _) _).grown gr4 (by simp) (fun k hk => ?_)
    simp [Value.ownBlock] at hk
    omega
  simp only [List.nil_append] at o4
  obtain ⟨g, cp, rfl, hg, hgw, hncp⟩ : ∃ g cp, v4 = .slice (some ⟨g, 0, none⟩) n cp ∧ w.heap.size ≤ g ∧ g < w4.heap.size ∧ n ≤ cp := by
    rcases o4.forms with ⟨_, e⟩ | ⟨g, cp, e, e1, e2, e3, _⟩
    · exfalso; have := hn.out; rw [e] at this; simp at this; omega
    · rw [hn.out] at e e3; exact ⟨g, cp, e, e1, e2, e3⟩
  have C0 : Hid (Come w w4 g n cp (stg l b 0)) := ⟨o4, b4⟩
  clear hat2 ho gr4 hat o4 b4
  go_wp2_with fail
  refine (specR1 g n cp _ b HB12 (stg l b 0) w4 (HLEN.out 0) C0.out.own hl).mono ?_
  rintro e w5 ⟨rfl, hru⟩
  have C1 : Hid (Come w w5 g n cp (stg l b 1)) := C0.out.next hru hg
  clear hru
  go_wp2_with fail
  go_loopw [6] (fun i wr => ∃ f : Nat, f ≤ n ∧ i = .int .i64 f ∧ Hid (Ruling w5 wr w.heap.size g n cp f (m2 (fn (stg l b 1)) b) (fn (stg l b 1)))) (fun i _ => n - (intOf i).toNat)
  case atStart => exact ⟨0, Nat.zero_le _, rfl, Ruling.start C1.out.own⟩
  case round =>
    obtain ⟨f, hf, rfl, hr⟩ := hrel
    by_cases hlt : f < n
    · have c := hr.out.cell (Nat.le_refl _) hlt
      have fz := hr.out.free f
      obtain ⟨X, hX⟩ : ∃ X, fn (stg l b 1) f = X := ⟨_, rfl⟩
      have HX : Hid _ := hX
      rw [hX] at c
      clear hX
      by_cases e4 : X = 4
      · subst e4
        obtain ⟨x, hx, hst⟩ := hr.out.strong2 hlt HX.out
        have HXX : Hid _ := hx
        obtain ⟨s, hs⟩ : ∃ s, strong (fn (stg l b 1)) b f = s := ⟨_, rfl⟩
        have HST : Hid (strong x b (f + 1) = s) := hst.trans hs
        have HS : Hid _ := hs
        clear hx hst hs
        by_cases es : s = 3
        · subst es
          go_wp2_with (go_at_call 62; refine (specStrong g n cp x b f _ HXX hlt hl).mono ?_; rintro e w' ⟨rfl, rfl⟩; rw [HST.out])
          go_roundw
          case rel => exact ⟨f + 1, by omega, by go_num, hr.out.set hlt (by unfold m2; rw [if_pos ⟨HX.out, HS.out⟩])⟩
          case measure => simp only [intOf]; omega
        · have gs : (s == 3) = false := by simpa using es
          go_wp2_with (go_at_call 62; refine (specStrong g n cp x b f _ HXX hlt hl).mono ?_; rintro e w' ⟨rfl, rfl⟩; rw [HST.out])
          go_roundw
          case rel => exact ⟨f + 1, by omega, by go_num, hr.out.keep hlt (by unfold m2; rw [if_neg (fun h => es (HS.out.symm.trans h.2))])⟩
          case measure => simp only [intOf]; omega
      · have g4 : (X == 4) = false := by simpa using e4
        go_wp2_with fail
        go_roundw
        case rel => exact ⟨f + 1, by omega, by go_num, hr.out.keep hlt (by unfold m2; rw [if_neg (fun h => e4 (HX.out.symm.trans h.1))])⟩
        case measure => simp only [intOf]; omega
    · have e : f = n := by omega
      subst e
      have C2 : Hid (Come w wr g f cp (stg l b 2)) := by
        have := hr.out.fin
        refine C1.out.next ?_ hg
        have e2 : stg l b 2 = mkL f (m2 (fn (stg l b 1)) b) := by show mkL (stg l b 1).length _ = _; rw [HLEN.out 1]; rfl
        rw [e2]; exact this
      clear hr
      obtain ⟨w6, rfl⟩ : ∃ w6 : World, w6 = wr := ⟨_, rfl⟩
      obtain ⟨n, rfl⟩ : ∃ n : Nat, n = f := ⟨_, rfl⟩
      go_wp2_with fail
      go_loopw [7] (fun i wr => ∃ f : Nat, f ≤ n ∧ i = .int .i64 f ∧ Hid (Ruling w6 wr w.heap.size g n cp f (m3 (fn (stg l b 2))) (fn (stg l b 2)))) (fun i _ => n - (intOf i).toNat)
      case atStart => exact ⟨0, Nat.zero_le _, rfl, Ruling.start C2.out.own⟩
      case round =>
        obtain ⟨f, hf, rfl, hr⟩ := hrel
        by_cases hlt : f < n
        · have c := hr.out.cell (Nat.le_refl _) hlt
          have fz := hr.out.free f
          obtain ⟨X, hX⟩ : ∃ X, fn (stg l b 2) f = X := ⟨_, rfl⟩
          have HX : Hid _ := hX
          rw [hX] at c
          clear hX
          by_cases e3 : X = 3
          · subst e3
            go_wp2_with fail
            go_roundw
            case rel => exact ⟨f + 1, by omega, by go_num, hr.out.set hlt (by unfold m3; rw [if_pos HX.out])⟩
            case measure => simp only [intOf]; omega
          · have g3 : (X == 3) = false := by simpa using e3
            go_wp2_with fail
            go_roundw
            case rel => exact ⟨f + 1, by omega, by go_num, hr.out.keep hlt (by unfold m3; rw [if_neg (fun h => e3 (HX.out.symm.trans h))])⟩
            case measure => simp only [intOf]; omega
        · have e : f = n := by omega
          subst e
          have C3 : Hid (Come w wr g f cp (stg l b 3)) := by
            have := hr.out.fin
            refine C2.out.next ?_ hg
            have e2 : stg l b 3 = mkL f (m3 (fn (stg l b 2))) := by show mkL (stg l b 2).length _ = _; rw [HLEN.out 2]; rfl
            rw [e2]; exact this
          clear hr
          obtain ⟨w7, rfl⟩ : ∃ w6 : World, w6 = wr := ⟨_, rfl⟩
          obtain ⟨n, rfl⟩ : ∃ n : Nat, n = f := ⟨_, rfl⟩
          go_wp2_with fail
          refine (specR4 g n cp _ (stg l b 3) w7 (HLEN.out 3) C3.out.own hn0 hl).mono ?_
          rintro e w8 ⟨rfl, hru⟩
          have C4 : Hid (Come w w8 g n cp (stg l b 4)) := C3.out.next hru hg
          clear hru
          go_wp2_with fail
          refine (specR5 g n cp _ (stg l b 4) w8 (HLEN.out 4) C4.out.own hl).mono ?_
          rintro e w9 ⟨rfl, hru⟩
          have C5 : Hid (Come w w9 g n cp (stg l b 5)) := C4.out.next hru hg
          clear hru
          go_wp2_with fail
          go_loopw [8] (fun i wr => ∃ f : Nat, f ≤ n ∧ i = .int .i64 f ∧ Hid (Ruling w9 wr w.heap.size g n cp f (m6 (fn (stg l b 5))) (fn (stg l b 5)))) (fun i _ => n - (intOf i).toNat)
          case atStart => exact ⟨0, Nat.zero_le _, rfl, Ruling.start C5.out.own⟩
          case round =>
            obtain ⟨f, hf, rfl, hr⟩ := hrel
            by_cases hlt : f < n
            · have c := hr.out.cell (Nat.le_refl _) hlt
              have fz := hr.out.free f
              obtain ⟨X, hX⟩ : ∃ X, fn (stg l b 5) f = X := ⟨_, rfl⟩
              have HX : Hid _ := hX
              rw [hX] at c
              clear hX
              by_cases e56 : X = 5 ∨ X = 6
              · have HI : Hid (inB X 5 6 = true) := by show _ = _; simp only [inB, decide_eq_true_eq]; omega
                have HM : Hid (m6 (fn (stg l b 5)) f = 13) := by show _ = _; unfold m6; rw [if_pos (by rw [HX.out]; omega)]
                clear e56
                go_wp2_with (go_at_call 17; refine (specIn _ _ _ _).mono ?_; rintro e w' ⟨rfl, rfl⟩; rw [HI.out])
                go_roundw
                case rel => exact ⟨f + 1, by omega, by go_num, hr.out.set hlt HM.out⟩
                case measure => simp only [intOf]; omega
              · have HI : Hid (inB X 5 6 = false) := by show _ = _; simp only [inB, decide_eq_false_iff_not]; omega
                by_cases e8 : X = 8
                · subst e8
                  have HM : Hid (m6 (fn (stg l b 5)) f = 13) := by show _ = _; unfold m6; rw [if_pos (by rw [HX.out]; omega)]
                  clear e56
                  go_wp2_with (go_at_call 17; refine (specIn _ _ _ _).mono ?_; rintro e w' ⟨rfl, rfl⟩; rw [HI.out])
                  go_roundw
                  case rel => exact ⟨f + 1, by omega, by go_num, hr.out.set hlt HM.out⟩
                  case measure => simp only [intOf]; omega
                · have g8 : (X == 8) = false := by simpa using e8
                  have HM : Hid (m6 (fn (stg l b 5)) f = fn (stg l b 5) f) := by show _ = _; unfold m6; rw [if_neg (by rw [HX.out]; omega)]
                  clear e56 e8
                  go_wp2_with (go_at_call 17; refine (specIn _ _ _ _).mono ?_; rintro e w' ⟨rfl, rfl⟩; rw [HI.out])
                  go_roundw
                  case rel => exact ⟨f + 1, by omega, by go_num, hr.out.keep hlt HM.out⟩
                  case measure => simp only [intOf]; omega
            · have e : f = n := by omega
              subst e
              have C6 : Hid (Come w wr g f cp (stg l b 6)) := by
                have := hr.out.fin
                refine C5.out.next ?_ hg
                have e2 : stg l b 6 = mkL f (m6 (fn (stg l b 5))) := by show mkL (stg l b 5).length _ = _; rw [HLEN.out 5]; rfl
                rw [e2]; exact this
              clear hr
              obtain ⟨w10, rfl⟩ : ∃ w6 : World, w6 = wr := ⟨_, rfl⟩
              obtain ⟨n, rfl⟩ : ∃ n : Nat, n = f := ⟨_, rfl⟩
              go_wp2_with fail
              go_loopw [9] (fun i wr => ∃ f : Nat, f ≤ n ∧ i = .int .i64 f ∧ Hid (Ruling w10 wr w.heap.size g n cp f (m7 (fn (stg l b 6)) b) (fn (stg l b 6)))) (fun i _ => n - (intOf i).toNat)
              case atStart => exact ⟨0, Nat.zero_le _, rfl, Ruling.start C6.out.own⟩
              case round =>
                obtain ⟨f, hf, rfl, hr⟩ := hrel
                by_cases hlt : f < n
                · have c := hr.out.cell (Nat.le_refl _) hlt
                  have fz := hr.out.free f
                  obtain ⟨X, hX⟩ : ∃ X, fn (stg l b 6) f = X := ⟨_, rfl⟩
                  have HX : Hid _ := hX
                  rw [hX] at c
                  clear hX
                  by_cases e4 : X = 4
                  · subst e4
                    obtain ⟨x, hx, hst⟩ := hr.out.strong7 hlt HX.out
                    have HXX : Hid _ := hx
                    obtain ⟨s, hs⟩ : ∃ s, strong (fn (stg l b 6)) b f = s := ⟨_, rfl⟩
                    have HST : Hid (strong x b (f + 1) = s) := hst.trans hs
                    have HS : Hid _ := hs
                    clear hx hst hs
                    by_cases es : s = 1
                    · subst es
                      go_wp2_with (go_at_call 62; refine (specStrong g n cp x b f _ HXX hlt hl).mono ?_; rintro e w' ⟨rfl, rfl⟩; rw [HST.out])
                      go_roundw
                      case rel => exact ⟨f + 1, by omega, by go_num, hr.out.set hlt (by unfold m7; rw [if_pos ⟨HX.out, HS.out⟩])⟩
                      case measure => simp only [intOf]; omega
                    · have gs : (s == 1) = false := by simpa using es
                      go_wp2_with (go_at_call 62; refine (specStrong g n cp x b f _ HXX hlt hl).mono ?_; rintro e w' ⟨rfl, rfl⟩; rw [HST.out])
                      go_roundw
                      case rel => exact ⟨f + 1, by omega, by go_num, hr.out.keep hlt (by unfold m7; rw [if_neg (fun h => es (HS.out.symm.trans h.2))])⟩
                      case measure => simp only [intOf]; omega
                  · have g4 : (X == 4) = false := by simpa using e4
                    go_wp2_with fail
                    go_roundw
                    case rel => exact ⟨f + 1, by omega, by go_num, hr.out.keep hlt (by unfold m7; rw [if_neg (fun h => e4 (HX.out.symm.trans h.1))])⟩
                    case measure => simp only [intOf]; omega
                · have e : f = n := by omega
                  subst e
                  have C7 : Hid (Come w wr g f cp (weakL l b)) := by
                    have := hr.out.fin
                    refine C6.out.next ?_ hg
                    have e2 : weakL l b = mkL f (m7 (fn (stg l b 6)) b) := by show mkL (stg l b 6).length _ = _; rw [HLEN.out 6]; rfl
                    rw [e2]; exact this
                  clear hr
                  go_wp2_with fail
                  go_ret
                  exact ⟨⟨_, rfl, C7.out.own⟩, C7.out.bel⟩
end Go.Proofs.YtgojdlbidjnmmabGreat
