import Derived.Test.YtbacfaddljjopaaImplCount
import Derived.Test.YtbacfaddljjopaaImplJoin
import Derived.Test.YtbacfaddljjopaaOk
namespace Go.Proofs.Ytbacfaddljjopaa
open Go.ChangeShapes Go.WideShapes Go.ChangeAt Go.RowKit
set_option linter.unusedSimpArgs false
attribute [local go_sem ↓] Go.wp_at_zero Go.wp_at_succ

theorem st_joins1 (z : Nat → Int) (k : Nat) : stJoins (st z (k + 1)) (z (k + 1)) = joins z (k + 1) := by
  rw [st_joins]; simp [begins]
theorem implJoins_is (s r : Int) (q : Bool) (w : World) (h : Hid (stJoins s r = q)) : Calls Try.prog 66 #[.int .i64 s, .int .i64 r] w fun e w' => e = .returned (.bool q) ∧ Below w.heap.size w w' := by
  rw [← h.out]; exact implJoins s r w
theorem implAfter_is (s r t : Int) (w : World) (h : Hid (after s r = t)) : Calls Try.prog 67 #[.int .i64 s, .int .i64 r] w fun e w' => e = .returned (.int .i64 t) ∧ w' = w := by
  rw [← h.out]; exact implAfter s r w
theorem between_is (a b c R : Int) (w : World) (h : Hid (place a b c = R)) : Calls Try.prog 80 #[.int .i64 a, .int .i64 b, .int .i64 c] w fun e w' => e = .returned (.int .i64 R) ∧ Below w.heap.size w w' := by
  rw [← h.out]; exact between_any a b c w

set_option maxHeartbeats 8000000 in
theorem breaks_row (b off cap m : Nat) (l : List Int) (w : World) (hn : Hid (l.length = m + 1)) (hl : m + 1 ≤ 80) (hlc : m + 1 ≤ cap) (hcm : cap ≤ maxLen) (hb : b < w.heap.size) (hat : At w b off l) (hok : Hid (okF (fn l) (m + 1) = true)) :
    Calls Try.prog 44 #[.slice (some ⟨b, off, none⟩) (m + 1) cap] w fun e w' => (∃ v', e = .returned v' ∧ OwnI w' w.heap.size v' (brkL l)) ∧ Below w.heap.size w w' := by
  have HO := implOk (.slice (some ⟨b, off, none⟩) (m + 1) cap) l w (.inr ⟨b, off, cap, by rw [hn.out], hb, by rw [hn.out]; exact hlc, hcm, hat⟩) (by rw [hn.out]; omega)
  rw [hn.out, hok.out] at HO
  obtain ⟨i0, hi, hz0, hz1, hz2⟩ := info_parts infoM
  have hnz : (((m + 1 : Nat) : Int) == 0) = false := by simp; omega
  go_enter Try.func44, Try.ntmps44
  go_wp2_with fail
  refine HO.mono ?_
  rintro e w1 ⟨rfl, rfl⟩
  go_wp2_with fail
  refine (count_row b off cap (m + 1) l _ hn hl hb hat).mono ?_
  rintro e w2 ⟨⟨gc, rfl, oc⟩, b2⟩
  have hgc := oc.lt gc rfl
  have hs2 := b2.size
  go_wp2_with (first | (at_make; refine wpList_make_full _ rfl _ _ 23 rfl w2.heap.size 3 i0 (.int .i64 0) 1 Try.underlying23 hi hz0 hz1 _ _ _ _ (m + 1) rfl rfl rfl rfl (by rw [hz2]; omega) (by unfold maxLen; omega) (Nat.le_refl _) ?_; intro w3 hown hgrow))
  have hB : Below w2.heap.size w2 w3 := (Below.refl _ _).grown hgrow (Nat.le_refl _) (by simp)
  have ho : OwnI w3 w2.heap.size (.slice (some ⟨w2.heap.size, 0, none⟩) (m + 1) (m + 1)) (List.replicate (m + 1) 0) := made_row hown
  clear hown hgrow
  go_loopw [6, 7, 31] (fun s q i wr => ∃ (k : Nat) (L : List Int), k ≤ m ∧ i = .int .i64 k ∧ s = .int .i64 (st (fn l) k) ∧ q = .int .i64 (solC (fn l) k) ∧ OwnI wr w2.heap.size (.slice (some ⟨w2.heap.size, 0, none⟩) (m + 1) (m + 1)) L ∧ Hid (∀ j, j < k → fn L j = brkAt (fn l) (m + 1) j) ∧ Below w2.heap.size w2 wr) (fun _ _ i _ => m - (intOf i).toNat)
  case atStart => exact ⟨0, _, Nat.zero_le _, rfl, rfl, rfl, ho, fun j hj => by omega, hB⟩
  case round =>
    obtain ⟨k, L, hk, rfl, rfl, rfl, hown, hsame, hbel⟩ := hrel
    have hB1 := b2.trans (hbel.mono hs2)
    have oc' := oc.below hbel
    by_cases hlt : k < m
    · have hat' := hat.below hB1 hb
      have r0 : wr.cell? ⟨b, off + k, none⟩ = some (.int .i64 (fn l k)) := hat' k (by rw [hn.out]; omega)
      have r1 : wr.cell? ⟨b, off + (k + 1), none⟩ = some (.int .i64 (fn l (k + 1))) := hat' (k + 1) (by rw [hn.out]; omega)
      have d0 : wr.cell? ⟨gc, k, none⟩ = some (.int .i64 (ctd (fn l) k)) := by rw [oc'.cellN k (by omega), fn_ctdL (by rw [hn.out]; omega)]
      have d1 : wr.cell? ⟨gc, k + 1, none⟩ = some (.int .i64 (ctd (fn l) (k + 1))) := by rw [oc'.cellN (k + 1) (by omega), fn_ctdL (by rw [hn.out]; omega)]
      obtain ⟨D, hD⟩ : ∃ D, ctd (fn l) k = D := ⟨_, rfl⟩
      obtain ⟨E, hE⟩ : ∃ E, ctd (fn l) (k + 1) = E := ⟨_, rfl⟩
      obtain ⟨T, hT⟩ : ∃ T, st (fn l) (k + 1) = T := ⟨_, rfl⟩
      obtain ⟨S, hS⟩ : ∃ S, solC (fn l) (k + 1) = S := ⟨_, rfl⟩
      obtain ⟨J, hJ⟩ : ∃ J, joins (fn l) (k + 1) = J := ⟨_, rfl⟩
      obtain ⟨C, hC⟩ : ∃ C, lineI (fn l (k + 1)) = C := ⟨_, rfl⟩
      obtain ⟨Q, hQ⟩ : ∃ Q, bearB D = Q := ⟨_, rfl⟩
      obtain ⟨R, hR⟩ : ∃ R, place D E S = R := ⟨_, rfl⟩
      have HT : Hid (after (st (fn l) k) (fn l k) = T) := hT
      have HJ : Hid (stJoins T (fn l (k + 1)) = J) := by show _ = _; rw [← hT, st_joins1]; exact hJ
      have HS : Hid (S = if D = 3 then solC (fn l) k else D) := by show _ = _; rw [← hS, ← hD]; rfl
      have HF : Hid (brkAt (fn l) (m + 1) k = if J = true ∨ (C = 7 ∧ Q = true) then 0 else R) := by
        show _ = _
        unfold brkAt; rw [if_neg (by omega), hJ, hC, hD, hE, hS, hQ, hR]
      have HC : Hid _ := hC
      have HQ : Hid _ := hQ
      have HR : Hid _ := hR
      have HS2 : Hid _ := hS
      have HT2 : Hid _ := hT
      rw [hD] at d0
      rw [hE] at d1
      clear hD hE hT hS hJ hC hQ hR
      have fin : ∀ (x : Int) (w6 : World), x = brkAt (fn l) (m + 1) k → Below wr.heap.size wr w6 → OwnI (w6.setCell ⟨w2.heap.size, k, none⟩ (.int .i64 x)) w2.heap.size (.slice (some ⟨w2.heap.size, 0, none⟩) (m + 1) (m + 1)) (L.set k x) ∧ (∀ j, j < k + 1 → fn (L.set k x) j = brkAt (fn l) (m + 1) j) ∧ Below w2.heap.size w2 (w6.setCell ⟨w2.heap.size, k, none⟩ (.int .i64 x)) := by
        intro x w6 hx b6
        refine ⟨(hown.below b6).storedN k x, fun j hj => ?_, (hbel.trans (b6.mono hbel.size)).setCell (Nat.le_refl _) _⟩
        have e := hown.len
        by_cases ej : j = k
        · subst ej; rw [fn_set_same (by omega)]; exact hx
        · rw [fn_set_other (by omega)]; exact hsame.out j (by omega)
      have FIN : Hid _ := fin
      have fz : ∀ w6 : World, Below wr.heap.size wr w6 → w6.frozen? ⟨w2.heap.size, k, none⟩ = false ∧ w6.cell? ⟨w2.heap.size, k, none⟩ = some (.int .i64 (fn L k)) ∧ w6.cell? ⟨gc, k, none⟩ = some (.int .i64 D) ∧ w6.cell? ⟨gc, k + 1, none⟩ = some (.int .i64 E) := fun w6 b6 =>
        ⟨(hown.below b6).frozenN k, (hown.below b6).cellN k (by omega), (b6.cell (p := ⟨gc, k, none⟩) (oc'.lt gc rfl).2).trans d0, (b6.cell (p := ⟨gc, k + 1, none⟩) (oc'.lt gc rfl).2).trans d1⟩
      have FZ : Hid _ := fz
      clear fin fz oc' hat' hat oc HO
      have i1 : (k : Int) < (m : Int) := by omega
      have i2 : (k : Int) + 1 < ((m + 1 : Nat) : Int) := by omega
      have i3 : (k : Int) < ((m + 1 : Nat) : Int) := by omega
      have i5 : (k : Int) ≤ (m : Int) := by omega
      have i6 : (k : Int) < (m : Int) + 1 := by omega
      have i7 : (0 : Int) ≤ (k : Int) + 1 := by omega
      have i8 : (k : Int) + 1 < (m : Int) + 1 := by omega
      have i9 : ((k : Int) + 1).toNat = k + 1 := by omega
      have i10 : IntKind.i64.wrap ((k : Int) + 1) = (k : Int) + 1 := by simp [IntKind.wrap, IntKind.bits, IntKind.signed]; omega
      by_cases h3 : D = 3
      · subst h3
        have HS3 : Hid (solC (fn l) k = S) := by show _ = _; rw [HS.out]; simp
        rw [HS3.out]
        clear HS
        cases J with
        | true =>
          go_wp2_with fail
          refine (implAfter_is _ _ T _ HT).mono ?_
          rintro e w5 ⟨rfl, rfl⟩
          go_wp2_with fail
          refine (implJoins_is _ _ true _ HJ).mono ?_
          rintro e w6 ⟨rfl, b6⟩
          obtain ⟨z1, z2, z3, z4⟩ := FZ.out w6 b6
          have F := FIN.out 0 w6 (by rw [HF.out]; simp) b6
          go_wp2_with fail
          exact ⟨⟨k + 1, _, by omega, by go_num, by rw [HT2.out], by rw [HS2.out], F.1, F.2.1, F.2.2⟩, by simp only [intOf]; omega⟩
        | false =>
          by_cases h77 : C = 7
          · subst h77
            go_wp2_with fail
            refine (implAfter_is _ _ T _ HT).mono ?_
            rintro e w5 ⟨rfl, rfl⟩
            go_wp2_with fail
            refine (implJoins_is _ _ false _ HJ).mono ?_
            rintro e w6 ⟨rfl, b6⟩
            obtain ⟨z1, z2, z3, z4⟩ := FZ.out w6 b6
            go_wp2_with fail
            refine (implLine_is _ 7 _ HC).mono ?_
            rintro e w7 ⟨rfl, b7⟩
            have B7 := bstep b6 b7
            obtain ⟨y1, y2, y3, y4⟩ := FZ.out w7 B7
            go_wp2_with fail
            refine (bears_is 3 Q _ HQ).mono ?_
            rintro e w8 ⟨rfl, b8⟩
            have BB := bstep B7 b8
            obtain ⟨x1, x2, x3, x4⟩ := FZ.out w8 BB
            clear z1 z2 z3 z4 y1 y2 y3 y4
            cases Q with
            | true =>
              have F := FIN.out 0 w8 (by rw [HF.out]; simp) BB
              go_wp2_with fail
              exact ⟨⟨k + 1, _, by omega, by go_num, by rw [HT2.out], by rw [HS2.out], F.1, F.2.1, F.2.2⟩, by simp only [intOf]; omega⟩
            | false =>
              have HFR : Hid (R = brkAt (fn l) (m + 1) k) := by show _ = _; rw [HF.out]; simp
              go_wp2_with fail
              go_region_with (go_at_call 80; refine (between_is _ _ _ R _ HR).mono ?_; rintro e w9 ⟨rfl, b9⟩; have B9 := bstep BB.drew b9; obtain ⟨v1, v2, v3, v4⟩ := FZ.out w9 B9)
              all_goals (go_wp2_with fail)
              all_goals (have F := FIN.out R _ HFR.out B9)
              all_goals exact ⟨⟨k + 1, _, by omega, by go_num, by rw [HT2.out], by rw [HS2.out], F.1, F.2.1, F.2.2⟩, by simp only [intOf]; omega⟩
          · have g77 : (C == 7) = false := by simpa using h77
            have HFR : Hid (R = brkAt (fn l) (m + 1) k) := by show _ = _; rw [HF.out, if_neg (by simp [h77])]
            clear h77
            go_wp2_with fail
            refine (implAfter_is _ _ T _ HT).mono ?_
            rintro e w5 ⟨rfl, rfl⟩
            go_wp2_with fail
            refine (implJoins_is _ _ false _ HJ).mono ?_
            rintro e w6 ⟨rfl, b6⟩
            obtain ⟨z1, z2, z3, z4⟩ := FZ.out w6 b6
            go_wp2_with fail
            refine (implLine_is _ C _ HC).mono ?_
            rintro e w7 ⟨rfl, b7⟩
            have BB := bstep b6 b7
            obtain ⟨y1, y2, y3, y4⟩ := FZ.out w7 BB
            clear z1 z2 z3 z4
            go_wp2_with fail
            go_region_with (go_at_call 80; refine (between_is _ _ _ R _ HR).mono ?_; rintro e w9 ⟨rfl, b9⟩; have B9 := bstep BB.drew b9; obtain ⟨v1, v2, v3, v4⟩ := FZ.out w9 B9)
            all_goals (go_wp2_with fail)
            all_goals (have F := FIN.out R _ HFR.out B9)
            all_goals exact ⟨⟨k + 1, _, by omega, by go_num, by rw [HT2.out], by rw [HS2.out], F.1, F.2.1, F.2.2⟩, by simp only [intOf]; omega⟩
      · have g3 : (D != 3) = true := by simpa using h3
        have e3 : S = D := by rw [HS.out, if_neg h3]
        clear HS
        subst e3
        clear h3
        cases J with
        | true =>
          go_wp2_with fail
          refine (implAfter_is _ _ T _ HT).mono ?_
          rintro e w5 ⟨rfl, rfl⟩
          go_wp2_with fail
          refine (implJoins_is _ _ true _ HJ).mono ?_
          rintro e w6 ⟨rfl, b6⟩
          obtain ⟨z1, z2, z3, z4⟩ := FZ.out w6 b6
          have F := FIN.out 0 w6 (by rw [HF.out]; simp) b6
          go_wp2_with fail
          exact ⟨⟨k + 1, _, by omega, by go_num, by rw [HT2.out], by rw [HS2.out], F.1, F.2.1, F.2.2⟩, by simp only [intOf]; omega⟩
        | false =>
          by_cases h77 : C = 7
          · subst h77
            go_wp2_with fail
            refine (implAfter_is _ _ T _ HT).mono ?_
            rintro e w5 ⟨rfl, rfl⟩
            go_wp2_with fail
            refine (implJoins_is _ _ false _ HJ).mono ?_
            rintro e w6 ⟨rfl, b6⟩
            obtain ⟨z1, z2, z3, z4⟩ := FZ.out w6 b6
            go_wp2_with fail
            refine (implLine_is _ 7 _ HC).mono ?_
            rintro e w7 ⟨rfl, b7⟩
            have B7 := bstep b6 b7
            obtain ⟨y1, y2, y3, y4⟩ := FZ.out w7 B7
            go_wp2_with fail
            refine (bears_is S Q _ HQ).mono ?_
            rintro e w8 ⟨rfl, b8⟩
            have BB := bstep B7 b8
            obtain ⟨x1, x2, x3, x4⟩ := FZ.out w8 BB
            clear z1 z2 z3 z4 y1 y2 y3 y4
            cases Q with
            | true =>
              have F := FIN.out 0 w8 (by rw [HF.out]; simp) BB
              go_wp2_with fail
              exact ⟨⟨k + 1, _, by omega, by go_num, by rw [HT2.out], by rw [HS2.out], F.1, F.2.1, F.2.2⟩, by simp only [intOf]; omega⟩
            | false =>
              have HFR : Hid (R = brkAt (fn l) (m + 1) k) := by show _ = _; rw [HF.out]; simp
              go_wp2_with fail
              go_region_with (go_at_call 80; refine (between_is _ _ _ R _ HR).mono ?_; rintro e w9 ⟨rfl, b9⟩; have B9 := bstep BB.drew b9; obtain ⟨v1, v2, v3, v4⟩ := FZ.out w9 B9)
              all_goals (go_wp2_with fail)
              all_goals (have F := FIN.out R _ HFR.out B9)
              all_goals exact ⟨⟨k + 1, _, by omega, by go_num, by rw [HT2.out], by rw [HS2.out], F.1, F.2.1, F.2.2⟩, by simp only [intOf]; omega⟩
          · have g77 : (C == 7) = false := by simpa using h77
            have HFR : Hid (R = brkAt (fn l) (m + 1) k) := by show _ = _; rw [HF.out, if_neg (by simp [h77])]
            clear h77
            go_wp2_with fail
            refine (implAfter_is _ _ T _ HT).mono ?_
            rintro e w5 ⟨rfl, rfl⟩
            go_wp2_with fail
            refine (implJoins_is _ _ false _ HJ).mono ?_
            rintro e w6 ⟨rfl, b6⟩
            obtain ⟨z1, z2, z3, z4⟩ := FZ.out w6 b6
            go_wp2_with fail
            refine (implLine_is _ C _ HC).mono ?_
            rintro e w7 ⟨rfl, b7⟩
            have BB := bstep b6 b7
            obtain ⟨y1, y2, y3, y4⟩ := FZ.out w7 BB
            clear z1 z2 z3 z4
            go_wp2_with fail
            go_region_with (go_at_call 80; refine (between_is _ _ _ R _ HR).mono ?_; rintro e w9 ⟨rfl, b9⟩; have B9 := bstep BB.drew b9; obtain ⟨v1, v2, v3, v4⟩ := FZ.out w9 B9)
            all_goals (go_wp2_with fail)
            all_goals (have F := FIN.out R _ HFR.out B9)
            all_goals exact ⟨⟨k + 1, _, by omega, by go_num, by rw [HT2.out], by rw [HS2.out], F.1, F.2.1, F.2.2⟩, by simp only [intOf]; omega⟩
    · have e : k = m := by omega
      subst e
      have z1 := hown.frozenN k
      have z2 := hown.cellN k (by omega)
      have i4 : (k : Int) < ((k + 1 : Nat) : Int) := by omega
      clear hat oc HO oc'
      go_wp2_with fail
      go_ret
      have el : L.set k 2 = brkL l := by
        have e := hown.len
        refine ext_fn (by rw [brkL_len, hn.out, List.length_set]; exact e) (fun j hj => ?_)
        have hjn : j < k + 1 := by rw [List.length_set, e] at hj; exact hj
        rw [fn_brkL (by rw [hn.out]; exact hjn), hn.out]
        by_cases ej : j = k
        · subst ej; rw [fn_set_same (by omega)]; unfold brkAt; rw [if_pos rfl]
        · rw [fn_set_other (by omega)]; exact hsame.out j (by omega)
      have hfin := hown.storedN k 2
      rw [el] at hfin
      exact ⟨⟨_, rfl, hfin.mono hs2⟩, hB1.setCell hs2 _⟩
end Go.Proofs.Ytbacfaddljjopaa
