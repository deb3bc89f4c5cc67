import Derived.Test.YtbjcdogbhnadkadBreakFacts
namespace Go.Proofs.Ytbjcdogbhnadkad
open Go.ChangeShapes Go.WideShapes Go.ChangeAt Go.RowKit
set_option linter.unusedSimpArgs false

set_option maxRecDepth 10000 in
set_option maxHeartbeats 16000000 in
theorem breakWordsLaw (a : Option Addr) (len cap : Nat) (w : World) (h : Bytes w a len cap) :
    Calls Try.prog 4 #[.slice a len cap] w fun e w' => e = .returned (.bool true) ∧ Below w.heap.size w w' := by
  by_cases hbig : 1048576 < len
  · have hbig2 : (1048576 : Int) < (len : Int) := by omega
    go_enter Try.func4, Try.ntmps4
    go_wp2_with fail
    go_ret
    exact ⟨rfl, Below.refl _ _⟩
  · have hbig2 : (len : Int) ≤ 1048576 := by omega
    go_enter Try.func4, Try.ntmps4
    go_wp2_with fail
    refine (drawBreaks a len cap w h).mono ?_
    rintro e w1 ⟨⟨v1, l, rfl, o1, hl⟩, b1⟩
    have hbl := brkR_len l
    go_wp2_with fail
    refine (implBreaks v1 l w1 o1.arg (by omega)).mono ?_
    rintro e w2 ⟨⟨v2, rfl, o2⟩, b2⟩
    have B2 := bstep b1 b2
    go_wp2_with fail
    refine (specBreaks v1 l w2 (o1.below b2).arg (by omega)).mono ?_
    rintro e w3 ⟨⟨v3, rfl, o3⟩, b3⟩
    have B3 := bstep B2 b3
    go_wp2_with fail
    refine (wcInts_yes _ _ (brkR l) _ (o2.below b3).arg o3.arg (by omega)).mono ?_
    rintro e w4 ⟨rfl, b4⟩
    have B4 := bstep B3 b4
    have oB := (o2.below b3).below b4
    have oL := ((o1.below b2).below b3).below b4
    clear o1 o2 o3 b1 b2 b3 b4 B2 B3
    obtain ⟨R, hR⟩ : ∃ R, brkR l = R := ⟨_, rfl⟩
    rw [hR] at oB hbl
    by_cases h0 : R = []
    · subst h0
      clear hR
      rcases oB.forms with ⟨rfl, _⟩ | ⟨gb, cb, rfl, _⟩
      all_goals
        go_wp2_with fail
        go_rounds 1
        go_ret
        exact ⟨rfl, B4⟩
    · have hok : okF (fn l) l.length = true := by
        cases hk : okF (fn l) l.length with
        | true => rfl
        | false => exfalso; apply h0; rw [← hR]; simp [brkR, hk]
      have hRL : R = brkL l := by rw [← hR]; simp [brkR, hok]
      have hRn : R.length = l.length := by rw [hRL, brkL_len]
      obtain ⟨n, hn⟩ : ∃ n, R.length = n := ⟨_, rfl⟩
      have hn0 : n ≠ 0 := fun e => h0 (List.eq_nil_of_length_eq_zero (by rw [hn]; exact e))
      obtain ⟨gb, cb, rfl⟩ : ∃ g c, v2 = .slice (some ⟨g, 0, none⟩) n c := by
        rcases oB.forms with ⟨_, e⟩ | ⟨g, c, e, _⟩
        · exact absurd e h0
        · rw [hn] at e; exact ⟨g, c, e⟩
      obtain ⟨gl, cl, rfl⟩ : ∃ g c, v1 = .slice (some ⟨g, 0, none⟩) n c := by
        rcases oL.forms with ⟨_, e⟩ | ⟨g, c, e, _⟩
        · exfalso; rw [e] at hRn; rw [hn] at hRn; simp at hRn; omega
        · rw [← hRn, hn] at e; exact ⟨g, c, e⟩
      have HCB : Hid (∀ j, j < n → w4.cell? ⟨gb, j, none⟩ = some (.int .i64 (brkAt (fn l) n j))) := fun j hj => by
        rw [oB.cellN j hj, hRL, fn_brkL (by omega), ← hRn, hn]
      have HCL : Hid (∀ j, j < n → w4.cell? ⟨gl, j, none⟩ = some (.int .i64 (fn l j))) := fun j hj => oL.cellN j hj
      have hgb := (oB.lt gb rfl).2
      have hgl := (oL.lt gl rfl).2
      have hn81 : n ≤ 81 := by omega
      clear hR hRL hRn hn hok oB oL h0 hbl hl
      go_wp2_with fail
      go_loopw [5] (fun i wr => ∃ k : Nat, k ≤ n ∧ i = .int .i64 k ∧ Below w4.heap.size w4 wr) (fun i _ => n - (intOf i).toNat)
      case atStart => exact ⟨0, by omega, rfl, Below.refl _ _⟩
      case round =>
        obtain ⟨k, hk, rfl, hbel⟩ := hrel
        by_cases hlt : k + 1 < n
        · have i1 : (k : Int) + 1 < (n : Int) := by omega
          have i2 : (k : Int) < (n : Int) := by omega
          have CL : Hid (∀ w6 : World, Below wr.heap.size wr w6 → ∀ j, j < n → w6.cell? ⟨gl, j, none⟩ = some (.int .i64 (fn l j))) := fun w6 b6 j hj => ((hbel.trans (b6.mono hbel.size)).cell (p := ⟨gl, j, none⟩) hgl).trans (HCL.out j hj)
          have CB : Hid (∀ w6 : World, Below wr.heap.size wr w6 → ∀ j, j < n → w6.cell? ⟨gb, j, none⟩ = some (.int .i64 (brkAt (fn l) n j))) := fun w6 b6 j hj => ((hbel.trans (b6.mono hbel.size)).cell (p := ⟨gb, j, none⟩) hgb).trans (HCB.out j hj)
          have c0 := CL.out wr (Below.refl _ _) k (by omega)
          obtain ⟨C, hC⟩ : ∃ C, lineI (fn l k) = C := ⟨_, rfl⟩
          obtain ⟨D, hD⟩ : ∃ D, lineI (fn l (k + 1)) = D := ⟨_, rfl⟩
          have HC : Hid _ := hC
          have HD : Hid _ := hD
          clear hC hD
          by_cases hw : D = 1 ∨ D = 2
          · by_cases hc : C = 1 ∨ C = 2
            · have HB : Hid (brkAt (fn l) n k = 0) := brk_word hlt (by rw [HC.out]; exact hc) (by rw [HD.out]; exact hw)
              rcases hc with rfl | rfl
              all_goals
                rcases hw with rfl | rfl
                all_goals
                  go_wp2_with fail
                  refine (specLine_is _ _ _ HC).mono ?_
                  rintro e w5 ⟨rfl, b5⟩
                  have c1 := CL.out w5 b5 (k + 1) (by omega)
                  go_wp2_with fail
                  refine (specLine_is _ _ _ HD).mono ?_
                  rintro e w6 ⟨rfl, b6⟩
                  have B6 := bstep b5 b6
                  have cb := CB.out w6 B6 k (by omega)
                  rw [HB.out] at cb
                  go_wp2_with fail
                  exact ⟨⟨k + 1, by omega, by go_num, hbel.trans (B6.mono hbel.size)⟩, by simp only [intOf]; omega⟩
            · have n1 : (C == 1) = false := by simp; omega
              have n2 : (C == 2) = false := by simp; omega
              by_cases h3 : C = 3
              · subst h3
                by_cases hk0 : k = 0
                · have g1 : decide (0 < k) = false := by simp; omega
                  have g2 : decide ((0 : Int) < (k : Int)) = false := by simp; omega
                  have g3 : ¬ ((0 : Int) < (k : Int)) := by omega
                  clear hk0 hc
                  rcases hw with rfl | rfl
                  all_goals
                    go_wp2_with fail
                    refine (specLine_is _ 3 _ HC).mono ?_
                    rintro e w5 ⟨rfl, b5⟩
                    have c1 := CL.out w5 b5 (k + 1) (by omega)
                    go_wp2_with fail
                    refine (specLine_is _ _ _ HD).mono ?_
                    rintro e w6 ⟨rfl, b6⟩
                    have B6 := bstep b5 b6
                    go_wp2_with fail
                    exact ⟨⟨k + 1, by omega, by go_num, hbel.trans (B6.mono hbel.size)⟩, by simp only [intOf]; omega⟩
                · obtain ⟨p, rfl⟩ : ∃ p, k = p + 1 := ⟨k - 1, by omega⟩
                  obtain ⟨E, hE⟩ : ∃ E, lineI (fn l p) = E := ⟨_, rfl⟩
                  have HE : Hid _ := hE
                  have j1 : (p : Int) < (n : Int) := by omega
                  have j2 : (0 : Int) < ((p + 1 : Nat) : Int) := by omega
                  have j3 : (0 : Int) < (p : Int) + 1 := by omega
                  clear hE hk0 hc
                  by_cases he : E = 1 ∨ E = 2
                  · have HB : Hid (brkAt (fn l) n (p + 1) = 1) := brk_blank hlt HC.out (by rw [HD.out]; exact hw) (by rw [HE.out]; exact he)
                    rcases hw with rfl | rfl
                    all_goals
                      rcases he with rfl | rfl
                      · go_wp2_with fail
                        refine (specLine_is _ 3 _ HC).mono ?_
                        rintro e w5 ⟨rfl, b5⟩
                        have c1 := CL.out w5 b5 (p + 1 + 1) (by omega)
                        go_wp2_with fail
                        refine (specLine_is _ _ _ HD).mono ?_
                        rintro e w6 ⟨rfl, b6⟩
                        have B6 := bstep b5 b6
                        have c2 := CL.out w6 B6 p (by omega)
                        go_wp2_with fail
                        refine (specLine_is _ 1 _ HE).mono ?_
                        rintro e w7 ⟨rfl, b7⟩
                        have B7 := bstep B6 b7
                        have cb := CB.out w7 B7 (p + 1) (by omega)
                        rw [HB.out] at cb
                        go_wp2_with fail
                        exact ⟨⟨p + 1 + 1, by omega, by go_num, hbel.trans (B7.mono hbel.size)⟩, by simp only [intOf]; omega⟩
                      · go_wp2_with fail
                        refine (specLine_is _ 3 _ HC).mono ?_
                        rintro e w5 ⟨rfl, b5⟩
                        have c1 := CL.out w5 b5 (p + 1 + 1) (by omega)
                        go_wp2_with fail
                        refine (specLine_is _ _ _ HD).mono ?_
                        rintro e w6 ⟨rfl, b6⟩
                        have B6 := bstep b5 b6
                        have c2 := CL.out w6 B6 p (by omega)
                        go_wp2_with fail
                        refine (specLine_is _ 2 _ HE).mono ?_
                        rintro e w7 ⟨rfl, b7⟩
                        have B7 := bstep B6 b7
                        have c3 := CL.out w7 B7 p (by omega)
                        go_wp2_with fail
                        refine (specLine_is _ 2 _ HE).mono ?_
                        rintro e w8 ⟨rfl, b8⟩
                        have B8 := bstep B7 b8
                        have cb := CB.out w8 B8 (p + 1) (by omega)
                        rw [HB.out] at cb
                        go_wp2_with fail
                        exact ⟨⟨p + 1 + 1, by omega, by go_num, hbel.trans (B8.mono hbel.size)⟩, by simp only [intOf]; omega⟩
                  · have m1 : (E == 1) = false := by simp; omega
                    have m2 : (E == 2) = false := by simp; omega
                    clear he
                    rcases hw with rfl | rfl
                    all_goals
                      go_wp2_with fail
                      refine (specLine_is _ 3 _ HC).mono ?_
                      rintro e w5 ⟨rfl, b5⟩
                      have c1 := CL.out w5 b5 (p + 1 + 1) (by omega)
                      go_wp2_with fail
                      refine (specLine_is _ _ _ HD).mono ?_
                      rintro e w6 ⟨rfl, b6⟩
                      have B6 := bstep b5 b6
                      have c2 := CL.out w6 B6 p (by omega)
                      go_wp2_with fail
                      refine (specLine_is _ E _ HE).mono ?_
                      rintro e w7 ⟨rfl, b7⟩
                      have B7 := bstep B6 b7
                      have c3 := CL.out w7 B7 p (by omega)
                      go_wp2_with fail
                      refine (specLine_is _ E _ HE).mono ?_
                      rintro e w8 ⟨rfl, b8⟩
                      have B8 := bstep B7 b8
                      go_wp2_with fail
                      exact ⟨⟨p + 1 + 1, by omega, by go_num, hbel.trans (B8.mono hbel.size)⟩, by simp only [intOf]; omega⟩
              · have n3 : (C == 3) = false := by simp; omega
                clear h3 hc
                rcases hw with rfl | rfl
                all_goals
                  go_wp2_with fail
                  refine (specLine_is _ C _ HC).mono ?_
                  rintro e w5 ⟨rfl, b5⟩
                  have c1 := CL.out w5 b5 (k + 1) (by omega)
                  go_wp2_with fail
                  refine (specLine_is _ _ _ HD).mono ?_
                  rintro e w6 ⟨rfl, b6⟩
                  have B6 := bstep b5 b6
                  go_wp2_with fail
                  exact ⟨⟨k + 1, by omega, by go_num, hbel.trans (B6.mono hbel.size)⟩, by simp only [intOf]; omega⟩
          · have m1 : (D == 1) = false := by simp; omega
            have m2 : (D == 2) = false := by simp; omega
            clear hw
            go_wp2_with fail
            refine (specLine_is _ C _ HC).mono ?_
            rintro e w5 ⟨rfl, b5⟩
            have c1 := CL.out w5 b5 (k + 1) (by omega)
            go_wp2_with fail
            refine (specLine_is _ D _ HD).mono ?_
            rintro e w6 ⟨rfl, b6⟩
            have B6 := bstep b5 b6
            go_wp2_with fail
            exact ⟨⟨k + 1, by omega, by go_num, hbel.trans (B6.mono hbel.size)⟩, by simp only [intOf]; omega⟩
        · have i3 : ¬ ((k : Int) + 1 < (n : Int)) := by omega
          go_wp2_with fail
          go_ret
          exact ⟨rfl, bstep B4 hbel⟩
end Go.Proofs.Ytbjcdogbhnadkad
