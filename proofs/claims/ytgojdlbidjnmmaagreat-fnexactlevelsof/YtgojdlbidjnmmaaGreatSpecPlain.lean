import Derived.Test.YtgojdlbidjnmmaaGreatImplPlain
namespace Go.Proofs.YtgojdlbidjnmmaaGreat
open Go.ChangeShapes Go.WideShapes Go.ChangeAt Go.RowKit
set_option linter.unusedSimpArgs false
set_option linter.unusedVariables false

set_option maxHeartbeats 16000000 in
theorem specPlain_row (b off cap n : Nat) (l : List Int) (before after lv : Int) (w : World) (hn : Hid (l.length = n)) (hn0 : 0 < n) (hl : n ≤ 80) (hb : b < w.heap.size) (hat : At w b off l) (h1 : Hid (sideB before = true)) (h2 : Hid (sideB after = true)) (h3 : 0 ≤ lv) (h4 : lv ≤ 22) :
    Calls Tryz.prog 78 #[.slice (some ⟨b, off, none⟩) n cap, .int .i64 before, .int .i64 after, .int .i64 lv] w fun e w' => (∃ v', e = .returned v' ∧ OwnI w' w.heap.size v' (plainL l before after lv)) ∧ Below w.heap.size w w' := by
  have ho := own_empty w w.heap.size 3 (Nat.le_refl _) rfl
  have hat2 : At (w.alloc (.cells #[] 3)) b off l := hat.below (B := w.heap.size) ((Below.refl _ _).alloc (Nat.le_refl _) _) hb
  have AS0 : asB before = before := as_side h1.out
  have AS1 : asB after = after := as_side h2.out
  have HA0 : Hid _ := AS0
  have HA1 : Hid _ := AS1
  clear AS0 AS1
  go_enter Tryz.func78, Tryz.ntmps78
  go_wp2_with (at_builtin; refine own_appendAll (.tmp 16) (.tmp 17) ho hn.out (by simp; omega) (by simp) hat2 rfl rfl rfl rfl ?_; intro v4 w4 o4 gr4; have tok : True := trivial)
  have b4 : Below w.heap.size w w4 := by
    refine ((Below.refl _ _).alloc (Nat.le_refl _) _).grown gr4 (by simp) (fun k hk => ?_)
    simp [Value.ownBlock] at hk
    omega
  simp only [List.nil_append] at o4
  obtain ⟨g, cp, rfl, hg, hgw, hncp⟩ : ∃ g cp, v4 = .slice (some ⟨g, 0, none⟩) n cp ∧ w.heap.size ≤ g ∧ g < w4.heap.size ∧ n ≤ cp := by
    rcases o4.forms with ⟨_, e⟩ | ⟨g, cp, e, e1, e2, e3, _⟩
    · exfalso; have := hn.out; rw [e] at this; simp at this; omega
    · rw [hn.out] at e e3; exact ⟨g, cp, e, e1, e2, e3⟩
  clear hat2 ho gr4 hat
  go_wp2_with fail
  go_loopw [10] (fun i wr => ∃ (f : Nat) (L : List Int), f ≤ n ∧ i = .int .i64 f ∧ OwnI wr w.heap.size (.slice (some ⟨g, 0, none⟩) n cp) L ∧ Hid (doneTo (fn l) n before after lv f L) ∧ Hid (f = 0 ∨ f = n ∨ noP (fn l (f - 1)) = false ∨ noP (fn l f) = false) ∧ Below w.heap.size w wr) (fun i _ => n - (intOf i).toNat)
  case atStart => exact ⟨0, l, Nat.zero_le _, rfl, o4, ⟨fun j hj => by omega, fun j _ _ => rfl⟩, .inl rfl, b4⟩
  case round =>
    obtain ⟨f, L, hf, rfl, hown, hinv, hedge, hbel⟩ := hrel
    obtain ⟨wo, rfl⟩ : ∃ wo : World, wo = wr := ⟨_, rfl⟩
    by_cases hlt : f < n
    · have hcell : ∀ j, f ≤ j → j < n → wo.cell? ⟨g, j, none⟩ = some (.int .i64 (fn l j)) := fun j h1 h2 => by rw [hown.cellN j h2, hinv.out.2 j h1 h2]
      have HC : Hid _ := hcell
      clear hcell
      have hfi : (f : Int) < (n : Int) := by omega
      go_wp2_with fail
      go_loop [11] (fun t => ∃ (t' : Nat), f ≤ t' ∧ t' ≤ n ∧ t = .int .i64 t' ∧ Hid (∀ j, f ≤ j → j < t' → noP (fn l j) = true)) (fun t => n - (intOf t).toNat)
      case atStart => exact ⟨f, Nat.le_refl _, by omega, rfl, fun j h1 h2 => by omega⟩
      case round =>
        obtain ⟨t, hft, htn, rfl, hrun⟩ := hrel
        by_cases htl : t < n
        · have ct := HC.out t (by omega) htl
          have hti : (t : Int) < (n : Int) := by omega
          by_cases hqt : noP (fn l t) = true
          · have HT : Hid _ := hqt
            clear hqt
            go_wp2_with (go_at_call 129; refine (specNo? _ _).mono ?_; rintro e w5 ⟨rfl, rfl⟩; rw [HT.out])
            refine ⟨⟨t + 1, by omega, by omega, by go_num, fun j h1 h2 => ?_⟩, by simp only [intOf]; omega⟩
            by_cases e : j = t
            · subst e; exact HT.out
            · exact hrun.out j h1 (by omega)
          · have hqt' : noP (fn l t) = false := by simpa using hqt
            have HT : Hid _ := hqt'
            clear hqt hqt'
            by_cases hft2 : t = f
            · subst hft2
              go_wp2_with (go_at_call 129; refine (specNo? _ _).mono ?_; rintro e w5 ⟨rfl, rfl⟩; rw [HT.out])
              refine ⟨⟨t + 1, L, by omega, by go_num, hown, ⟨fun j hj => ?_, fun j a c => hinv.out.2 j (by omega) c⟩, .inr (.inr (.inl (by simpa using HT.out))), hbel⟩, by simp only [intOf]; omega⟩
              by_cases e : j = t
              · subst e; rw [plain_other HT.out]; exact hinv.out.2 j (Nat.le_refl _) hlt
              · exact hinv.out.1 j (by omega)
            · have hne : ((t : Int) == (f : Int)) = false := by simp; omega
              have hff : f < t := by omega
              have htf : noP (fn l f) = true := hrun.out f (Nat.le_refl _) hff
              by_cases hf0 : f = 0
              · have HAH : Hid (ahP (fn l) before f = before) := by show _ = _; subst hf0; rfl
                have gz : decide ((0 : Int) < (f : Int)) = false := by simp; omega
                have gz1 : ¬ (0 < f) := by omega
                have HF : Hid _ := hf0
                clear hf0 htf hft2
                by_cases hE0 : before = asB (fn l t)
                · have hE : (before == asB (fn l t)) = true := by simpa using hE0
                  clear hE0
                  by_cases hS : sideB (before) = true
                  ·
                    have HR : Hid (among (ahP (fn l) before f) (bhP (fn l) n after (n - t)) lv = before) := by
                      show _ = _
                      rw [bhP_hit htl HT.out, HAH.out, ← among_as, HA0.out]
                      rw [if_pos ⟨by simpa using hE, hS⟩]
                    have HS : Hid _ := hS
                    clear hS
                    go_wp2_with (first | (go_at_call 129; refine (specNo? _ _).mono ?_; rintro e w5 ⟨rfl, rfl⟩; rw [HT.out]) | (go_at_call 130; refine (specAs _ _).mono ?_; rintro e w5 ⟨rfl, rfl⟩) | (go_at_call 119; refine (specOwn _ _ h3).mono ?_; rintro e w5 ⟨rfl, rfl⟩) | (go_at_call 131; refine (specSide? _ _).mono ?_; rintro e w5 ⟨rfl, rfl⟩; rw [HS.out]))
                    go_loopw [15] (fun q wv => ∃ (j : Nat) (L' : List Int), f ≤ j ∧ j ≤ t ∧ q = .int .i64 j ∧ OwnI wv w.heap.size (.slice (some ⟨g, 0, none⟩) n cp) L' ∧ Hid (∀ x, x < n → fn L' x = if f ≤ x ∧ x < j then before else fn L x) ∧ Below w.heap.size w wv) (fun q _ => t - (intOf q).toNat)
                    case atStart => exact ⟨f, L, Nat.le_refl _, by omega, rfl, hown, fun x _ => by rw [if_neg (by omega)], hbel⟩
                    case round =>
                      obtain ⟨j, L', hfj, hjt, rfl, hown', hL', hbel'⟩ := hrel
                      by_cases hjl : j < t
                      · have hfz : wr.frozen? ⟨g, j, none⟩ = false := hown'.frozenN j
                        have hcz : wr.cell? ⟨g, j, none⟩ = some (.int .i64 (fn L' j)) := hown'.cellN j (by omega)
                        have hji : (j : Int) < (t : Int) := by omega
                        have hjn : (j : Int) < (n : Int) := by omega
                        go_wp2_with fail
                        refine ⟨⟨j + 1, L'.set j (before), by omega, by omega, by go_num, hown'.storedN j _, fun x hx => ?_, hbel'.setCell hg _⟩, by simp only [intOf]; omega⟩
                        have e := hown'.len
                        by_cases ex : x = j
                        · subst ex; rw [fn_set_same (by omega), if_pos (by omega)]
                        · rw [fn_set_other (by omega), hL'.out x hx]
                          by_cases e2 : f ≤ x ∧ x < j
                          · rw [if_pos e2, if_pos (by omega)]
                          · rw [if_neg e2, if_neg (by omega)]
                      · have e : j = t := by omega
                        subst e
                        go_wp2_with fail
                        refine ⟨⟨j, L', by omega, rfl, hown', ?_, ?_, hbel'⟩, by simp only [intOf]; omega⟩
                        · refine done_step hinv.out (by omega) (by omega) hrun.out HR.out (fun x hx => ?_)
                          rw [hL'.out x hx, show f + (j - f) = j by omega]
                        · exact Or.inr (Or.inr (Or.inr HT.out))
                  · have hS : sideB (before) = false := by simpa using hS
                    have HR : Hid (among (ahP (fn l) before f) (bhP (fn l) n after (n - t)) lv = ownOf lv) := by
                      show _ = _
                      rw [bhP_hit htl HT.out, HAH.out, ← among_as, HA0.out]
                      rw [if_neg (fun h => by rw [h.2] at hS; cases hS)]
                    have HS : Hid _ := hS
                    clear hS
                    go_wp2_with (first | (go_at_call 129; refine (specNo? _ _).mono ?_; rintro e w5 ⟨rfl, rfl⟩; rw [HT.out]) | (go_at_call 130; refine (specAs _ _).mono ?_; rintro e w5 ⟨rfl, rfl⟩) | (go_at_call 119; refine (specOwn _ _ h3).mono ?_; rintro e w5 ⟨rfl, rfl⟩) | (go_at_call 131; refine (specSide? _ _).mono ?_; rintro e w5 ⟨rfl, rfl⟩; rw [HS.out]))
                    go_loopw [15] (fun q wv => ∃ (j : Nat) (L' : List Int), f ≤ j ∧ j ≤ t ∧ q = .int .i64 j ∧ OwnI wv w.heap.size (.slice (some ⟨g, 0, none⟩) n cp) L' ∧ Hid (∀ x, x < n → fn L' x = if f ≤ x ∧ x < j then ownOf lv else fn L x) ∧ Below w.heap.size w wv) (fun q _ => t - (intOf q).toNat)
                    case atStart => exact ⟨f, L, Nat.le_refl _, by omega, rfl, hown, fun x _ => by rw [if_neg (by omega)], hbel⟩
                    case round =>
                      obtain ⟨j, L', hfj, hjt, rfl, hown', hL', hbel'⟩ := hrel
                      by_cases hjl : j < t
                      · have hfz : wr.frozen? ⟨g, j, none⟩ = false := hown'.frozenN j
                        have hcz : wr.cell? ⟨g, j, none⟩ = some (.int .i64 (fn L' j)) := hown'.cellN j (by omega)
                        have hji : (j : Int) < (t : Int) := by omega
                        have hjn : (j : Int) < (n : Int) := by omega
                        go_wp2_with fail
                        refine ⟨⟨j + 1, L'.set j (ownOf lv), by omega, by omega, by go_num, hown'.storedN j _, fun x hx => ?_, hbel'.setCell hg _⟩, by simp only [intOf]; omega⟩
                        have e := hown'.len
                        by_cases ex : x = j
                        · subst ex; rw [fn_set_same (by omega), if_pos (by omega)]
                        · rw [fn_set_other (by omega), hL'.out x hx]
                          by_cases e2 : f ≤ x ∧ x < j
                          · rw [if_pos e2, if_pos (by omega)]
                          · rw [if_neg e2, if_neg (by omega)]
                      · have e : j = t := by omega
                        subst e
                        go_wp2_with fail
                        refine ⟨⟨j, L', by omega, rfl, hown', ?_, ?_, hbel'⟩, by simp only [intOf]; omega⟩
                        · refine done_step hinv.out (by omega) (by omega) hrun.out HR.out (fun x hx => ?_)
                          rw [hL'.out x hx, show f + (j - f) = j by omega]
                        · exact Or.inr (Or.inr (Or.inr HT.out))
                · have hE : (before == asB (fn l t)) = false := by simpa using hE0
                  clear hE0
                  have HR : Hid (among (ahP (fn l) before f) (bhP (fn l) n after (n - t)) lv = ownOf lv) := by
                    show _ = _
                    rw [bhP_hit htl HT.out, HAH.out, ← among_as, HA0.out]
                    rw [if_neg (fun h => by rw [h.1] at hE; simp at hE)]
                  skip
                  skip
                  go_wp2_with (first | (go_at_call 129; refine (specNo? _ _).mono ?_; rintro e w5 ⟨rfl, rfl⟩; rw [HT.out]) | (go_at_call 130; refine (specAs _ _).mono ?_; rintro e w5 ⟨rfl, rfl⟩) | (go_at_call 119; refine (specOwn _ _ h3).mono ?_; rintro e w5 ⟨rfl, rfl⟩))
                  go_loopw [15] (fun q wv => ∃ (j : Nat) (L' : List Int), f ≤ j ∧ j ≤ t ∧ q = .int .i64 j ∧ OwnI wv w.heap.size (.slice (some ⟨g, 0, none⟩) n cp) L' ∧ Hid (∀ x, x < n → fn L' x = if f ≤ x ∧ x < j then ownOf lv else fn L x) ∧ Below w.heap.size w wv) (fun q _ => t - (intOf q).toNat)
                  case atStart => exact ⟨f, L, Nat.le_refl _, by omega, rfl, hown, fun x _ => by rw [if_neg (by omega)], hbel⟩
                  case round =>
                    obtain ⟨j, L', hfj, hjt, rfl, hown', hL', hbel'⟩ := hrel
                    by_cases hjl : j < t
                    · have hfz : wr.frozen? ⟨g, j, none⟩ = false := hown'.frozenN j
                      have hcz : wr.cell? ⟨g, j, none⟩ = some (.int .i64 (fn L' j)) := hown'.cellN j (by omega)
                      have hji : (j : Int) < (t : Int) := by omega
                      have hjn : (j : Int) < (n : Int) := by omega
                      go_wp2_with fail
                      refine ⟨⟨j + 1, L'.set j (ownOf lv), by omega, by omega, by go_num, hown'.storedN j _, fun x hx => ?_, hbel'.setCell hg _⟩, by simp only [intOf]; omega⟩
                      have e := hown'.len
                      by_cases ex : x = j
                      · subst ex; rw [fn_set_same (by omega), if_pos (by omega)]
                      · rw [fn_set_other (by omega), hL'.out x hx]
                        by_cases e2 : f ≤ x ∧ x < j
                        · rw [if_pos e2, if_pos (by omega)]
                        · rw [if_neg e2, if_neg (by omega)]
                    · have e : j = t := by omega
                      subst e
                      go_wp2_with fail
                      refine ⟨⟨j, L', by omega, rfl, hown', ?_, ?_, hbel'⟩, by simp only [intOf]; omega⟩
                      · refine done_step hinv.out (by omega) (by omega) hrun.out HR.out (fun x hx => ?_)
                        rw [hL'.out x hx, show f + (j - f) = j by omega]
                      · exact Or.inr (Or.inr (Or.inr HT.out))
              · obtain ⟨p, rfl⟩ : ∃ p, f = p + 1 := ⟨f - 1, by omega⟩
                have hpz : noP (fn l p) = false := by
                  rcases hedge.out with h | h | h | h
                  · omega
                  · omega
                  · simpa using h
                  · rw [htf] at h; cases h
                have HAH : Hid (ahP (fn l) before (p + 1) = fn l p) := ahP_hit hpz
                have cp0 : wo.cell? ⟨g, p, none⟩ = some (.int .i64 (fn l p)) := by rw [hown.cellN p (by omega), hinv.out.1 p (by omega), plain_other hpz]
                clear hf0 htf hft2 hpz
                by_cases hE0 : asB (fn l p) = asB (fn l t)
                · have hE : (asB (fn l p) == asB (fn l t)) = true := by simpa using hE0
                  clear hE0
                  by_cases hS : sideB (asB (fn l p)) = true
                  ·
                    have HR : Hid (among (ahP (fn l) before (p + 1)) (bhP (fn l) n after (n - t)) lv = asB (fn l p)) := by
                      show _ = _
                      rw [bhP_hit htl HT.out, HAH.out, ← among_as]
                      rw [if_pos ⟨by simpa using hE, hS⟩]
                    have HS : Hid _ := hS
                    clear hS
                    go_wp2_with (first | (go_at_call 129; refine (specNo? _ _).mono ?_; rintro e w5 ⟨rfl, rfl⟩; rw [HT.out]) | (go_at_call 130; refine (specAs _ _).mono ?_; rintro e w5 ⟨rfl, rfl⟩) | (go_at_call 119; refine (specOwn _ _ h3).mono ?_; rintro e w5 ⟨rfl, rfl⟩) | (go_at_call 131; refine (specSide? _ _).mono ?_; rintro e w5 ⟨rfl, rfl⟩; rw [HS.out]))
                    go_loopw [15] (fun q wv => ∃ (j : Nat) (L' : List Int), (p + 1) ≤ j ∧ j ≤ t ∧ q = .int .i64 j ∧ OwnI wv w.heap.size (.slice (some ⟨g, 0, none⟩) n cp) L' ∧ Hid (∀ x, x < n → fn L' x = if (p + 1) ≤ x ∧ x < j then asB (fn l p) else fn L x) ∧ Below w.heap.size w wv) (fun q _ => t - (intOf q).toNat)
                    case atStart => exact ⟨(p + 1), L, Nat.le_refl _, by omega, rfl, hown, fun x _ => by rw [if_neg (by omega)], hbel⟩
                    case round =>
                      obtain ⟨j, L', hfj, hjt, rfl, hown', hL', hbel'⟩ := hrel
                      by_cases hjl : j < t
                      · have hfz : wr.frozen? ⟨g, j, none⟩ = false := hown'.frozenN j
                        have hcz : wr.cell? ⟨g, j, none⟩ = some (.int .i64 (fn L' j)) := hown'.cellN j (by omega)
                        have hji : (j : Int) < (t : Int) := by omega
                        have hjn : (j : Int) < (n : Int) := by omega
                        go_wp2_with fail
                        refine ⟨⟨j + 1, L'.set j (asB (fn l p)), by omega, by omega, by go_num, hown'.storedN j _, fun x hx => ?_, hbel'.setCell hg _⟩, by simp only [intOf]; omega⟩
                        have e := hown'.len
                        by_cases ex : x = j
                        · subst ex; rw [fn_set_same (by omega), if_pos (by omega)]
                        · rw [fn_set_other (by omega), hL'.out x hx]
                          by_cases e2 : (p + 1) ≤ x ∧ x < j
                          · rw [if_pos e2, if_pos (by omega)]
                          · rw [if_neg e2, if_neg (by omega)]
                      · have e : j = t := by omega
                        subst e
                        go_wp2_with fail
                        refine ⟨⟨j, L', by omega, rfl, hown', ?_, ?_, hbel'⟩, by simp only [intOf]; omega⟩
                        · refine done_step hinv.out (by omega) (by omega) hrun.out HR.out (fun x hx => ?_)
                          rw [hL'.out x hx, show (p + 1) + (j - (p + 1)) = j by omega]
                        · exact Or.inr (Or.inr (Or.inr HT.out))
                  · have hS : sideB (asB (fn l p)) = false := by simpa using hS
                    have HR : Hid (among (ahP (fn l) before (p + 1)) (bhP (fn l) n after (n - t)) lv = ownOf lv) := by
                      show _ = _
                      rw [bhP_hit htl HT.out, HAH.out, ← among_as]
                      rw [if_neg (fun h => by rw [h.2] at hS; cases hS)]
                    have HS : Hid _ := hS
                    clear hS
                    go_wp2_with (first | (go_at_call 129; refine (specNo? _ _).mono ?_; rintro e w5 ⟨rfl, rfl⟩; rw [HT.out]) | (go_at_call 130; refine (specAs _ _).mono ?_; rintro e w5 ⟨rfl, rfl⟩) | (go_at_call 119; refine (specOwn _ _ h3).mono ?_; rintro e w5 ⟨rfl, rfl⟩) | (go_at_call 131; refine (specSide? _ _).mono ?_; rintro e w5 ⟨rfl, rfl⟩; rw [HS.out]))
                    go_loopw [15] (fun q wv => ∃ (j : Nat) (L' : List Int), (p + 1) ≤ j ∧ j ≤ t ∧ q = .int .i64 j ∧ OwnI wv w.heap.size (.slice (some ⟨g, 0, none⟩) n cp) L' ∧ Hid (∀ x, x < n → fn L' x = if (p + 1) ≤ x ∧ x < j then ownOf lv else fn L x) ∧ Below w.heap.size w wv) (fun q _ => t - (intOf q).toNat)
                    case atStart => exact ⟨(p + 1), L, Nat.le_refl _, by omega, rfl, hown, fun x _ => by rw [if_neg (by omega)], hbel⟩
                    case round =>
                      obtain ⟨j, L', hfj, hjt, rfl, hown', hL', hbel'⟩ := hrel
                      by_cases hjl : j < t
                      · have hfz : wr.frozen? ⟨g, j, none⟩ = false := hown'.frozenN j
                        have hcz : wr.cell? ⟨g, j, none⟩ = some (.int .i64 (fn L' j)) := hown'.cellN j (by omega)
                        have hji : (j : Int) < (t : Int) := by omega
                        have hjn : (j : Int) < (n : Int) := by omega
                        go_wp2_with fail
                        refine ⟨⟨j + 1, L'.set j (ownOf lv), by omega, by omega, by go_num, hown'.storedN j _, fun x hx => ?_, hbel'.setCell hg _⟩, by simp only [intOf]; omega⟩
                        have e := hown'.len
                        by_cases ex : x = j
                        · subst ex; rw [fn_set_same (by omega), if_pos (by omega)]
                        · rw [fn_set_other (by omega), hL'.out x hx]
                          by_cases e2 : (p + 1) ≤ x ∧ x < j
                          · rw [if_pos e2, if_pos (by omega)]
                          · rw [if_neg e2, if_neg (by omega)]
                      · have e : j = t := by omega
                        subst e
                        go_wp2_with fail
                        refine ⟨⟨j, L', by omega, rfl, hown', ?_, ?_, hbel'⟩, by simp only [intOf]; omega⟩
                        · refine done_step hinv.out (by omega) (by omega) hrun.out HR.out (fun x hx => ?_)
                          rw [hL'.out x hx, show (p + 1) + (j - (p + 1)) = j by omega]
                        · exact Or.inr (Or.inr (Or.inr HT.out))
                · have hE : (asB (fn l p) == asB (fn l t)) = false := by simpa using hE0
                  clear hE0
                  have HR : Hid (among (ahP (fn l) before (p + 1)) (bhP (fn l) n after (n - t)) lv = ownOf lv) := by
                    show _ = _
                    rw [bhP_hit htl HT.out, HAH.out, ← among_as]
                    rw [if_neg (fun h => by rw [h.1] at hE; simp at hE)]
                  skip
                  skip
                  go_wp2_with (first | (go_at_call 129; refine (specNo? _ _).mono ?_; rintro e w5 ⟨rfl, rfl⟩; rw [HT.out]) | (go_at_call 130; refine (specAs _ _).mono ?_; rintro e w5 ⟨rfl, rfl⟩) | (go_at_call 119; refine (specOwn _ _ h3).mono ?_; rintro e w5 ⟨rfl, rfl⟩))
                  go_loopw [15] (fun q wv => ∃ (j : Nat) (L' : List Int), (p + 1) ≤ j ∧ j ≤ t ∧ q = .int .i64 j ∧ OwnI wv w.heap.size (.slice (some ⟨g, 0, none⟩) n cp) L' ∧ Hid (∀ x, x < n → fn L' x = if (p + 1) ≤ x ∧ x < j then ownOf lv else fn L x) ∧ Below w.heap.size w wv) (fun q _ => t - (intOf q).toNat)
                  case atStart => exact ⟨(p + 1), L, Nat.le_refl _, by omega, rfl, hown, fun x _ => by rw [if_neg (by omega)], hbel⟩
                  case round =>
                    obtain ⟨j, L', hfj, hjt, rfl, hown', hL', hbel'⟩ := hrel
                    by_cases hjl : j < t
                    · have hfz : wr.frozen? ⟨g, j, none⟩ = false := hown'.frozenN j
                      have hcz : wr.cell? ⟨g, j, none⟩ = some (.int .i64 (fn L' j)) := hown'.cellN j (by omega)
                      have hji : (j : Int) < (t : Int) := by omega
                      have hjn : (j : Int) < (n : Int) := by omega
                      go_wp2_with fail
                      refine ⟨⟨j + 1, L'.set j (ownOf lv), by omega, by omega, by go_num, hown'.storedN j _, fun x hx => ?_, hbel'.setCell hg _⟩, by simp only [intOf]; omega⟩
                      have e := hown'.len
                      by_cases ex : x = j
                      · subst ex; rw [fn_set_same (by omega), if_pos (by omega)]
                      · rw [fn_set_other (by omega), hL'.out x hx]
                        by_cases e2 : (p + 1) ≤ x ∧ x < j
                        · rw [if_pos e2, if_pos (by omega)]
                        · rw [if_neg e2, if_neg (by omega)]
                    · have e : j = t := by omega
                      subst e
                      go_wp2_with fail
                      refine ⟨⟨j, L', by omega, rfl, hown', ?_, ?_, hbel'⟩, by simp only [intOf]; omega⟩
                      · refine done_step hinv.out (by omega) (by omega) hrun.out HR.out (fun x hx => ?_)
                        rw [hL'.out x hx, show (p + 1) + (j - (p + 1)) = j by omega]
                      · exact Or.inr (Or.inr (Or.inr HT.out))
        · have htt : t = n := by omega
          have hti : ((t : Int) < (n : Int)) = False := by simp; omega
          have hff : f < t := by omega
          have hne : ((t : Int) == (f : Int)) = false := by simp; omega
          have htf : noP (fn l f) = true := hrun.out f (Nat.le_refl _) hff
          have HTT : Hid _ := htt
          clear htt
          by_cases hf0 : f = 0
          · have HAH : Hid (ahP (fn l) before f = before) := by show _ = _; subst hf0; rfl
            have gz : decide ((0 : Int) < (f : Int)) = false := by simp; omega
            have gz1 : ¬ (0 < f) := by omega
            have HF : Hid _ := hf0
            clear hf0 htf
            by_cases hE0 : before = after
            · have hE : (before == after) = true := by simpa using hE0
              clear hE0
              by_cases hS : sideB (before) = true
              ·
                have HR : Hid (among (ahP (fn l) before f) (bhP (fn l) n after (n - t)) lv = before) := by
                  show _ = _
                  rw [show n - t = 0 by omega, show bhP (fn l) n after 0 = after from rfl, HAH.out, ← among_as, HA0.out, HA1.out]
                  rw [if_pos ⟨by simpa using hE, hS⟩]
                have HS : Hid _ := hS
                clear hS
                go_wp2_with (first | (go_at_call 129; refine (specNo? _ _).mono ?_; rintro e w5 ⟨rfl, rfl⟩; rw [HT.out]) | (go_at_call 130; refine (specAs _ _).mono ?_; rintro e w5 ⟨rfl, rfl⟩) | (go_at_call 119; refine (specOwn _ _ h3).mono ?_; rintro e w5 ⟨rfl, rfl⟩) | (go_at_call 131; refine (specSide? _ _).mono ?_; rintro e w5 ⟨rfl, rfl⟩; rw [HS.out]))
                go_loopw [15] (fun q wv => ∃ (j : Nat) (L' : List Int), f ≤ j ∧ j ≤ t ∧ q = .int .i64 j ∧ OwnI wv w.heap.size (.slice (some ⟨g, 0, none⟩) n cp) L' ∧ Hid (∀ x, x < n → fn L' x = if f ≤ x ∧ x < j then before else fn L x) ∧ Below w.heap.size w wv) (fun q _ => t - (intOf q).toNat)
                case atStart => exact ⟨f, L, Nat.le_refl _, by omega, rfl, hown, fun x _ => by rw [if_neg (by omega)], hbel⟩
                case round =>
                  obtain ⟨j, L', hfj, hjt, rfl, hown', hL', hbel'⟩ := hrel
                  by_cases hjl : j < t
                  · have hfz : wr.frozen? ⟨g, j, none⟩ = false := hown'.frozenN j
                    have hcz : wr.cell? ⟨g, j, none⟩ = some (.int .i64 (fn L' j)) := hown'.cellN j (by omega)
                    have hji : (j : Int) < (t : Int) := by omega
                    have hjn : (j : Int) < (n : Int) := by omega
                    go_wp2_with fail
                    refine ⟨⟨j + 1, L'.set j (before), by omega, by omega, by go_num, hown'.storedN j _, fun x hx => ?_, hbel'.setCell hg _⟩, by simp only [intOf]; omega⟩
                    have e := hown'.len
                    by_cases ex : x = j
                    · subst ex; rw [fn_set_same (by omega), if_pos (by omega)]
                    · rw [fn_set_other (by omega), hL'.out x hx]
                      by_cases e2 : f ≤ x ∧ x < j
                      · rw [if_pos e2, if_pos (by omega)]
                      · rw [if_neg e2, if_neg (by omega)]
                  · have e : j = t := by omega
                    subst e
                    go_wp2_with fail
                    refine ⟨⟨j, L', by omega, rfl, hown', ?_, ?_, hbel'⟩, by simp only [intOf]; omega⟩
                    · refine done_step hinv.out (by omega) (by omega) hrun.out HR.out (fun x hx => ?_)
                      rw [hL'.out x hx, show f + (j - f) = j by omega]
                    · exact Or.inr (Or.inl (by omega))
              · have hS : sideB (before) = false := by simpa using hS
                have HR : Hid (among (ahP (fn l) before f) (bhP (fn l) n after (n - t)) lv = ownOf lv) := by
                  show _ = _
                  rw [show n - t = 0 by omega, show bhP (fn l) n after 0 = after from rfl, HAH.out, ← among_as, HA0.out, HA1.out]
                  rw [if_neg (fun h => by rw [h.2] at hS; cases hS)]
                have HS : Hid _ := hS
                clear hS
                go_wp2_with (first | (go_at_call 129; refine (specNo? _ _).mono ?_; rintro e w5 ⟨rfl, rfl⟩; rw [HT.out]) | (go_at_call 130; refine (specAs _ _).mono ?_; rintro e w5 ⟨rfl, rfl⟩) | (go_at_call 119; refine (specOwn _ _ h3).mono ?_; rintro e w5 ⟨rfl, rfl⟩) | (go_at_call 131; refine (specSide? _ _).mono ?_; rintro e w5 ⟨rfl, rfl⟩; rw [HS.out]))
                go_loopw [15] (fun q wv => ∃ (j : Nat) (L' : List Int), f ≤ j ∧ j ≤ t ∧ q = .int .i64 j ∧ OwnI wv w.heap.size (.slice (some ⟨g, 0, none⟩) n cp) L' ∧ Hid (∀ x, x < n → fn L' x = if f ≤ x ∧ x < j then ownOf lv else fn L x) ∧ Below w.heap.size w wv) (fun q _ => t - (intOf q).toNat)
                case atStart => exact ⟨f, L, Nat.le_refl _, by omega, rfl, hown, fun x _ => by rw [if_neg (by omega)], hbel⟩
                case round =>
                  obtain ⟨j, L', hfj, hjt, rfl, hown', hL', hbel'⟩ := hrel
                  by_cases hjl : j < t
                  · have hfz : wr.frozen? ⟨g, j, none⟩ = false := hown'.frozenN j
                    have hcz : wr.cell? ⟨g, j, none⟩ = some (.int .i64 (fn L' j)) := hown'.cellN j (by omega)
                    have hji : (j : Int) < (t : Int) := by omega
                    have hjn : (j : Int) < (n : Int) := by omega
                    go_wp2_with fail
                    refine ⟨⟨j + 1, L'.set j (ownOf lv), by omega, by omega, by go_num, hown'.storedN j _, fun x hx => ?_, hbel'.setCell hg _⟩, by simp only [intOf]; omega⟩
                    have e := hown'.len
                    by_cases ex : x = j
                    · subst ex; rw [fn_set_same (by omega), if_pos (by omega)]
                    · rw [fn_set_other (by omega), hL'.out x hx]
                      by_cases e2 : f ≤ x ∧ x < j
                      · rw [if_pos e2, if_pos (by omega)]
                      · rw [if_neg e2, if_neg (by omega)]
                  · have e : j = t := by omega
                    subst e
                    go_wp2_with fail
                    refine ⟨⟨j, L', by omega, rfl, hown', ?_, ?_, hbel'⟩, by simp only [intOf]; omega⟩
                    · refine done_step hinv.out (by omega) (by omega) hrun.out HR.out (fun x hx => ?_)
                      rw [hL'.out x hx, show f + (j - f) = j by omega]
                    · exact Or.inr (Or.inl (by omega))
            · have hE : (before == after) = false := by simpa using hE0
              clear hE0
              have HR : Hid (among (ahP (fn l) before f) (bhP (fn l) n after (n - t)) lv = ownOf lv) := by
                show _ = _
                rw [show n - t = 0 by omega, show bhP (fn l) n after 0 = after from rfl, HAH.out, ← among_as, HA0.out, HA1.out]
                rw [if_neg (fun h => by rw [h.1] at hE; simp at hE)]
              skip
              skip
              go_wp2_with (first | (go_at_call 129; refine (specNo? _ _).mono ?_; rintro e w5 ⟨rfl, rfl⟩; rw [HT.out]) | (go_at_call 130; refine (specAs _ _).mono ?_; rintro e w5 ⟨rfl, rfl⟩) | (go_at_call 119; refine (specOwn _ _ h3).mono ?_; rintro e w5 ⟨rfl, rfl⟩))
              go_loopw [15] (fun q wv => ∃ (j : Nat) (L' : List Int), f ≤ j ∧ j ≤ t ∧ q = .int .i64 j ∧ OwnI wv w.heap.size (.slice (some ⟨g, 0, none⟩) n cp) L' ∧ Hid (∀ x, x < n → fn L' x = if f ≤ x ∧ x < j then ownOf lv else fn L x) ∧ Below w.heap.size w wv) (fun q _ => t - (intOf q).toNat)
              case atStart => exact ⟨f, L, Nat.le_refl _, by omega, rfl, hown, fun x _ => by rw [if_neg (by omega)], hbel⟩
              case round =>
                obtain ⟨j, L', hfj, hjt, rfl, hown', hL', hbel'⟩ := hrel
                by_cases hjl : j < t
                · have hfz : wr.frozen? ⟨g, j, none⟩ = false := hown'.frozenN j
                  have hcz : wr.cell? ⟨g, j, none⟩ = some (.int .i64 (fn L' j)) := hown'.cellN j (by omega)
                  have hji : (j : Int) < (t : Int) := by omega
                  have hjn : (j : Int) < (n : Int) := by omega
                  go_wp2_with fail
                  refine ⟨⟨j + 1, L'.set j (ownOf lv), by omega, by omega, by go_num, hown'.storedN j _, fun x hx => ?_, hbel'.setCell hg _⟩, by simp only [intOf]; omega⟩
                  have e := hown'.len
                  by_cases ex : x = j
                  · subst ex; rw [fn_set_same (by omega), if_pos (by omega)]
                  · rw [fn_set_other (by omega), hL'.out x hx]
                    by_cases e2 : f ≤ x ∧ x < j
                    · rw [if_pos e2, if_pos (by omega)]
                    · rw [if_neg e2, if_neg (by omega)]
                · have e : j = t := by omega
                  subst e
                  go_wp2_with fail
                  refine ⟨⟨j, L', by omega, rfl, hown', ?_, ?_, hbel'⟩, by simp only [intOf]; omega⟩
                  · refine done_step hinv.out (by omega) (by omega) hrun.out HR.out (fun x hx => ?_)
                    rw [hL'.out x hx, show f + (j - f) = j by omega]
                  · exact Or.inr (Or.inl (by omega))
          · obtain ⟨p, rfl⟩ : ∃ p, f = p + 1 := ⟨f - 1, by omega⟩
            have hpz : noP (fn l p) = false := by
              rcases hedge.out with h | h | h | h
              · omega
              · omega
              · simpa using h
              · rw [htf] at h; cases h
            have HAH : Hid (ahP (fn l) before (p + 1) = fn l p) := ahP_hit hpz
            have cp0 : wo.cell? ⟨g, p, none⟩ = some (.int .i64 (fn l p)) := by rw [hown.cellN p (by omega), hinv.out.1 p (by omega), plain_other hpz]
            clear hf0 htf hpz
            by_cases hE0 : asB (fn l p) = after
            · have hE : (asB (fn l p) == after) = true := by simpa using hE0
              clear hE0
              by_cases hS : sideB (asB (fn l p)) = true
              ·
                have HR : Hid (among (ahP (fn l) before (p + 1)) (bhP (fn l) n after (n - t)) lv = asB (fn l p)) := by
                  show _ = _
                  rw [show n - t = 0 by omega, show bhP (fn l) n after 0 = after from rfl, HAH.out, ← among_as, HA1.out]
                  rw [if_pos ⟨by simpa using hE, hS⟩]
                have HS : Hid _ := hS
                clear hS
                go_wp2_with (first | (go_at_call 129; refine (specNo? _ _).mono ?_; rintro e w5 ⟨rfl, rfl⟩; rw [HT.out]) | (go_at_call 130; refine (specAs _ _).mono ?_; rintro e w5 ⟨rfl, rfl⟩) | (go_at_call 119; refine (specOwn _ _ h3).mono ?_; rintro e w5 ⟨rfl, rfl⟩) | (go_at_call 131; refine (specSide? _ _).mono ?_; rintro e w5 ⟨rfl, rfl⟩; rw [HS.out]))
                go_loopw [15] (fun q wv => ∃ (j : Nat) (L' : List Int), (p + 1) ≤ j ∧ j ≤ t ∧ q = .int .i64 j ∧ OwnI wv w.heap.size (.slice (some ⟨g, 0, none⟩) n cp) L' ∧ Hid (∀ x, x < n → fn L' x = if (p + 1) ≤ x ∧ x < j then asB (fn l p) else fn L x) ∧ Below w.heap.size w wv) (fun q _ => t - (intOf q).toNat)
                case atStart => exact ⟨(p + 1), L, Nat.le_refl _, by omega, rfl, hown, fun x _ => by rw [if_neg (by omega)], hbel⟩
                case round =>
                  obtain ⟨j, L', hfj, hjt, rfl, hown', hL', hbel'⟩ := hrel
                  by_cases hjl : j < t
                  · have hfz : wr.frozen? ⟨g, j, none⟩ = false := hown'.frozenN j
                    have hcz : wr.cell? ⟨g, j, none⟩ = some (.int .i64 (fn L' j)) := hown'.cellN j (by omega)
                    have hji : (j : Int) < (t : Int) := by omega
                    have hjn : (j : Int) < (n : Int) := by omega
                    go_wp2_with fail
                    refine ⟨⟨j + 1, L'.set j (asB (fn l p)), by omega, by omega, by go_num, hown'.storedN j _, fun x hx => ?_, hbel'.setCell hg _⟩, by simp only [intOf]; omega⟩
                    have e := hown'.len
                    by_cases ex : x = j
                    · subst ex; rw [fn_set_same (by omega), if_pos (by omega)]
                    · rw [fn_set_other (by omega), hL'.out x hx]
                      by_cases e2 : (p + 1) ≤ x ∧ x < j
                      · rw [if_pos e2, if_pos (by omega)]
                      · rw [if_neg e2, if_neg (by omega)]
                  · have e : j = t := by omega
                    subst e
                    go_wp2_with fail
                    refine ⟨⟨j, L', by omega, rfl, hown', ?_, ?_, hbel'⟩, by simp only [intOf]; omega⟩
                    · refine done_step hinv.out (by omega) (by omega) hrun.out HR.out (fun x hx => ?_)
                      rw [hL'.out x hx, show (p + 1) + (j - (p + 1)) = j by omega]
                    · exact Or.inr (Or.inl (by omega))
              · have hS : sideB (asB (fn l p)) = false := by simpa using hS
                have HR : Hid (among (ahP (fn l) before (p + 1)) (bhP (fn l) n after (n - t)) lv = ownOf lv) := by
                  show _ = _
                  rw [show n - t = 0 by omega, show bhP (fn l) n after 0 = after from rfl, HAH.out, ← among_as, HA1.out]
                  rw [if_neg (fun h => by rw [h.2] at hS; cases hS)]
                have HS : Hid _ := hS
                clear hS
                go_wp2_with (first | (go_at_call 129; refine (specNo? _ _).mono ?_; rintro e w5 ⟨rfl, rfl⟩; rw [HT.out]) | (go_at_call 130; refine (specAs _ _).mono ?_; rintro e w5 ⟨rfl, rfl⟩) | (go_at_call 119; refine (specOwn _ _ h3).mono ?_; rintro e w5 ⟨rfl, rfl⟩) | (go_at_call 131; refine (specSide? _ _).mono ?_; rintro e w5 ⟨rfl, rfl⟩; rw [HS.out]))
                go_loopw [15] (fun q wv => ∃ (j : Nat) (L' : List Int), (p + 1) ≤ j ∧ j ≤ t ∧ q = .int .i64 j ∧ OwnI wv w.heap.size (.slice (some ⟨g, 0, none⟩) n cp) L' ∧ Hid (∀ x, x < n → fn L' x = if (p + 1) ≤ x ∧ x < j then ownOf lv else fn L x) ∧ Below w.heap.size w wv) (fun q _ => t - (intOf q).toNat)
                case atStart => exact ⟨(p + 1), L, Nat.le_refl _, by omega, rfl, hown, fun x _ => by rw [if_neg (by omega)], hbel⟩
                case round =>
                  obtain ⟨j, L', hfj, hjt, rfl, hown', hL', hbel'⟩ := hrel
                  by_cases hjl : j < t
                  · have hfz : wr.frozen? ⟨g, j, none⟩ = false := hown'.frozenN j
                    have hcz : wr.cell? ⟨g, j, none⟩ = some (.int .i64 (fn L' j)) := hown'.cellN j (by omega)
                    have hji : (j : Int) < (t : Int) := by omega
                    have hjn : (j : Int) < (n : Int) := by omega
                    go_wp2_with fail
                    refine ⟨⟨j + 1, L'.set j (ownOf lv), by omega, by omega, by go_num, hown'.storedN j _, fun x hx => ?_, hbel'.setCell hg _⟩, by simp only [intOf]; omega⟩
                    have e := hown'.len
                    by_cases ex : x = j
                    · subst ex; rw [fn_set_same (by omega), if_pos (by omega)]
                    · rw [fn_set_other (by omega), hL'.out x hx]
                      by_cases e2 : (p + 1) ≤ x ∧ x < j
                      · rw [if_pos e2, if_pos (by omega)]
                      · rw [if_neg e2, if_neg (by omega)]
                  · have e : j = t := by omega
                    subst e
                    go_wp2_with fail
                    refine ⟨⟨j, L', by omega, rfl, hown', ?_, ?_, hbel'⟩, by simp only [intOf]; omega⟩
                    · refine done_step hinv.out (by omega) (by omega) hrun.out HR.out (fun x hx => ?_)
                      rw [hL'.out x hx, show (p + 1) + (j - (p + 1)) = j by omega]
                    · exact Or.inr (Or.inl (by omega))
            · have hE : (asB (fn l p) == after) = false := by simpa using hE0
              clear hE0
              have HR : Hid (among (ahP (fn l) before (p + 1)) (bhP (fn l) n after (n - t)) lv = ownOf lv) := by
                show _ = _
                rw [show n - t = 0 by omega, show bhP (fn l) n after 0 = after from rfl, HAH.out, ← among_as, HA1.out]
                rw [if_neg (fun h => by rw [h.1] at hE; simp at hE)]
              skip
              skip
              go_wp2_with (first | (go_at_call 129; refine (specNo? _ _).mono ?_; rintro e w5 ⟨rfl, rfl⟩; rw [HT.out]) | (go_at_call 130; refine (specAs _ _).mono ?_; rintro e w5 ⟨rfl, rfl⟩) | (go_at_call 119; refine (specOwn _ _ h3).mono ?_; rintro e w5 ⟨rfl, rfl⟩))
              go_loopw [15] (fun q wv => ∃ (j : Nat) (L' : List Int), (p + 1) ≤ j ∧ j ≤ t ∧ q = .int .i64 j ∧ OwnI wv w.heap.size (.slice (some ⟨g, 0, none⟩) n cp) L' ∧ Hid (∀ x, x < n → fn L' x = if (p + 1) ≤ x ∧ x < j then ownOf lv else fn L x) ∧ Below w.heap.size w wv) (fun q _ => t - (intOf q).toNat)
              case atStart => exact ⟨(p + 1), L, Nat.le_refl _, by omega, rfl, hown, fun x _ => by rw [if_neg (by omega)], hbel⟩
              case round =>
                obtain ⟨j, L', hfj, hjt, rfl, hown', hL', hbel'⟩ := hrel
                by_cases hjl : j < t
                · have hfz : wr.frozen? ⟨g, j, none⟩ = false := hown'.frozenN j
                  have hcz : wr.cell? ⟨g, j, none⟩ = some (.int .i64 (fn L' j)) := hown'.cellN j (by omega)
                  have hji : (j : Int) < (t : Int) := by omega
                  have hjn : (j : Int) < (n : Int) := by omega
                  go_wp2_with fail
                  refine ⟨⟨j + 1, L'.set j (ownOf lv), by omega, by omega, by go_num, hown'.storedN j _, fun x hx => ?_, hbel'.setCell hg _⟩, by simp only [intOf]; omega⟩
                  have e := hown'.len
                  by_cases ex : x = j
                  · subst ex; rw [fn_set_same (by omega), if_pos (by omega)]
                  · rw [fn_set_other (by omega), hL'.out x hx]
                    by_cases e2 : (p + 1) ≤ x ∧ x < j
                    · rw [if_pos e2, if_pos (by omega)]
                    · rw [if_neg e2, if_neg (by omega)]
                · have e : j = t := by omega
                  subst e
                  go_wp2_with fail
                  refine ⟨⟨j, L', by omega, rfl, hown', ?_, ?_, hbel'⟩, by simp only [intOf]; omega⟩
                  · refine done_step hinv.out (by omega) (by omega) hrun.out HR.out (fun x hx => ?_)
                    rw [hL'.out x hx, show (p + 1) + (j - (p + 1)) = j by omega]
                  · exact Or.inr (Or.inl (by omega))
    · have e : f = n := by omega
      subst e
      go_wp2_with fail
      go_ret
      have el : L = plainL l before after lv := by
        refine ext_fn (by rw [plainL_len, hn.out]; exact hown.len) (fun j hj => ?_)
        have hjn : j < f := by rw [← hown.len]; exact hj
        rw [fn_plainL (by rw [hn.out]; exact hjn), hn.out]; exact hinv.out.1 j hjn
      rw [el] at hown
      exact ⟨⟨_, rfl, hown⟩, hbel⟩
end Go.Proofs.YtgojdlbidjnmmaaGreat
