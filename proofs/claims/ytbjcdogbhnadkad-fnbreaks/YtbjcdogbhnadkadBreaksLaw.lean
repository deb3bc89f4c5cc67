import Derived.Test.YtbjcdogbhnadkadBreakFacts
import Derived.Test.YtbjcdogbhnadkadClusAtI
namespace Go.Proofs.Ytbjcdogbhnadkad
open Go.ChangeShapes Go.WideShapes Go.ChangeAt Go.RowKit
set_option linter.unusedSimpArgs false

theorem line4 {r : Int} (h : lineI r = 4) : r = 10 := by
  by_cases e : r = 10
  · exact e
  · exfalso
    unfold lineI lineR at h
    repeat' split at h
    all_goals omega
theorem placeS_low {a b s : Int} (h : a ≠ 4) : placeS a b s = 0 ∨ placeS a b s = 1 := by
  unfold placeS innerS
  rw [if_neg h]
  repeat' split
  all_goals omega
theorem ctd_four {z : Nat → Int} {k : Nat} (h : lineI (z k) ≠ 4) : ctd z k ≠ 4 := by
  rw [ctd_ah]
  split
  · split
    · rename_i hb; intro e; rw [e] at hb; revert hb; decide
    · decide
  · exact h
theorem brk_must {z : Nat → Int} {n k : Nat} (hk : k + 1 < n) (h : lineI (z k) = 4) : brkAt z n k = 2 := by
  have hz := line4 h
  have hj : joins z (k + 1) = false := by
    unfold joins
    rw [Nat.add_sub_cancel, if_pos (.inr hz)]
    simp [hz]
  have hc : ctd z k = 4 := by rw [ctd_plain (by omega)]; exact h
  unfold brkAt
  rw [if_neg (by omega), hc, if_neg (by rintro (e | e); rw [hj] at e; cases e; exact absurd e.2 (by decide)), place_is]
  unfold placeS; rw [if_pos rfl]
theorem brk_low {z : Nat → Int} {n k : Nat} (hk : k + 1 < n) (h : lineI (z k) ≠ 4) : brkAt z n k = 0 ∨ brkAt z n k = 1 := by
  unfold brkAt
  rw [if_neg (by omega)]
  split
  · exact .inl rfl
  · rw [place_is]; exact placeS_low (ctd_four h)
theorem brk_may {z : Nat → Int} {n k : Nat} (hk : k + 1 < n) (h : brkAt z n k = 1) :
    joins z (k + 1) = false ∧ lineI (z (k + 1)) ≠ 3 ∧ lineI (z (k + 1)) ≠ 4 ∧ ((lineI (z (k + 1)) = 9 ∨ lineI (z (k + 1)) = 13) → lineI (z k) ≠ 1 ∧ lineI (z k) ≠ 2) := by
  unfold brkAt at h
  rw [if_neg (by omega)] at h
  by_cases c : joins z (k + 1) = true ∨ (lineI (z (k + 1)) = 7 ∧ bearB (ctd z k) = true)
  · rw [if_pos c] at h; cases h
  · rw [if_neg c, place_is] at h
    have hj : joins z (k + 1) = false := by
      cases e : joins z (k + 1) with
      | false => rfl
      | true => exact absurd (.inl e) c
    refine ⟨hj, fun e => ?_, fun e => ?_, fun hd => ?_⟩
    · rw [ctd_plain (k := k + 1) (by omega), e] at h
      unfold placeS at h
      split at h
      · cases h
      · rw [if_pos (by omega)] at h; cases h
    · rw [ctd_plain (k := k + 1) (by omega), e] at h
      unfold placeS at h
      split at h
      · cases h
      · rw [if_pos (by omega)] at h; cases h
    · rw [ctd_plain (k := k + 1) (by omega)] at h
      constructor
      all_goals
        intro e
        have hs : solC z (k + 1) = lineI (z k) := by simp only [solC]; rw [ctd_plain (by omega), if_neg (by omega)]
        rw [ctd_plain (k := k) (by omega), hs, e] at h
        rcases hd with f | f <;> rw [f] at h <;> revert h <;> decide
theorem implAt_is (v : Value) (l : List Int) (n : Nat) (a r : Int) (a0 : Option Addr) (cap : Nat) (w : World) (hn : Hid (l.length = n)) (hva : v = .slice a0 n cap) (hv : Arg w v l) (hl : n ≤ 4194304) (hr : Hid (atR l a = r)) :
    Calls Try.prog 12 #[v, .int .i64 a] w fun e w' => e = .returned (.int .i64 r) ∧ Below w.heap.size w w' := by
  rw [← hr.out]; exact implAt v l n a a0 cap w hn hva hv hl

set_option maxRecDepth 10000 in
set_option maxHeartbeats 16000000 in
theorem breaksLaw (a : Option Addr) (len cap : Nat) (w : World) (h : Bytes w a len cap) :
    Calls Try.prog 3 #[.slice a len cap] w fun e w' => e = .returned (.bool true) ∧ Below w.heap.size w w' := by
  by_cases hbig : 1048576 < len
  · have hbig2 : (1048576 : Int) < (len : Int) := by omega
    go_enter Try.func3, Try.ntmps3
    go_wp2_with fail
    go_ret
    exact ⟨rfl, Below.refl _ _⟩
  · have hbig2 : (len : Int) ≤ 1048576 := by omega
    go_enter Try.func3, Try.ntmps3
    go_wp2_with fail
    refine (drawBreaks a len cap w h).mono ?_
    rintro e w1 ⟨⟨v1, l, rfl, o1, hl⟩, b1⟩
    have hbl := brkR_len l
    go_wp2_with fail
    refine (implBreaks v1 l w1 o1.arg (by omega)).mono ?_
    rintro e w2 ⟨⟨v2, rfl, o2⟩, b2⟩
    have B2 := bstep b1 b2
    go_wp2_with fail
    refine (specBreaks v1 l w2 (o1.below b2).arg (by omega)).mono ?_
    rintro e w3 ⟨⟨v3, rfl, o3⟩, b3⟩
    have B3 := bstep B2 b3
    go_wp2_with fail
    refine (wcInts_yes _ _ (brkR l) _ (o2.below b3).arg o3.arg (by omega)).mono ?_
    rintro e w4 ⟨rfl, b4⟩
    have B4 := bstep B3 b4
    have oB := (o2.below b3).below b4
    have oL := ((o1.below b2).below b3).below b4
    clear o1 o2 o3 b1 b2 b3 b4 B2 B3
    obtain ⟨R, hR⟩ : ∃ R, brkR l = R := ⟨_, rfl⟩
    rw [hR] at oB hbl
    by_cases h0 : R = []
    · subst h0
      have HR0 : Hid _ := hR
      clear hR
      have hL4 := oL.arg
      rcases oB.forms with ⟨rfl, _⟩ | ⟨gb, cb, rfl, _⟩
      all_goals
        go_wp2_with fail
        refine (specBreaks v1 l w4 hL4 (by omega)).mono ?_
        rintro e w5 ⟨⟨v5, rfl, o5⟩, b5⟩
        rw [HR0.out] at o5
        go_wp2_with fail
        refine (wcInts_yes _ _ [] _ (oB.below b5).arg o5.arg (by simp)).mono ?_
        rintro e w6 ⟨rfl, b6⟩
        go_wp2_with fail
        go_ret
        exact ⟨rfl, bstep (bstep B4 b5) b6⟩
    · have hok : okF (fn l) l.length = true := by
        cases hk : okF (fn l) l.length with
        | true => rfl
        | false => exfalso; apply h0; rw [← hR]; simp [brkR, hk]
      have hRL : R = brkL l := by rw [← hR]; simp [brkR, hok]
      have hRn : R.length = l.length := by rw [hRL, brkL_len]
      obtain ⟨n, hn⟩ : ∃ n, R.length = n := ⟨_, rfl⟩
      have hn0 : n ≠ 0 := fun e => h0 (List.eq_nil_of_length_eq_zero (by rw [hn]; exact e))
      obtain ⟨gb, cb, rfl⟩ : ∃ g c, v2 = .slice (some ⟨g, 0, none⟩) n c := by
        rcases oB.forms with ⟨_, e⟩ | ⟨g, c, e, _⟩
        · exact absurd e h0
        · rw [hn] at e; exact ⟨g, c, e⟩
      obtain ⟨gl, cl, rfl⟩ : ∃ g c, v1 = .slice (some ⟨g, 0, none⟩) n c := by
        rcases oL.forms with ⟨_, e⟩ | ⟨g, c, e, _⟩
        · exfalso; rw [e] at hRn; rw [hn] at hRn; simp at hRn; omega
        · rw [← hRn, hn] at e; exact ⟨g, c, e⟩
      have HCB : Hid (∀ j, j < n → w4.cell? ⟨gb, j, none⟩ = some (.int .i64 (brkAt (fn l) n j))) := fun j hj => by
        rw [oB.cellN j hj, hRL, fn_brkL (by omega), ← hRn, hn]
      have HCL : Hid (∀ j, j < n → w4.cell? ⟨gl, j, none⟩ = some (.int .i64 (fn l j))) := fun j hj => oL.cellN j hj
      have hgb := (oB.lt gb rfl).2
      have hgl := (oL.lt gl rfl).2
      have hn81 : n ≤ 81 := by omega
      have HLN : Hid (l.length = n) := by show _ = _; rw [← hRn]; exact hn
      have HOK : Hid _ := hok
      have hn1 : 0 < n := by omega
      have hnz : ((n : Int) == 0) = false := by simp; omega
      have OL4 : Hid (OwnI w4 w.heap.size (.slice (some ⟨gl, 0, none⟩) n cl) l) := oL
      clear hR hRL hRn hn hok oB oL h0 hbl hl
      go_wp2_with fail
      go_loopw [5] (fun i wr => ∃ k : Nat, k + 1 ≤ n ∧ i = .int .i64 k ∧ Below w4.heap.size w4 wr) (fun i _ => n - (intOf i).toNat)
      case atStart => exact ⟨0, by omega, rfl, Below.refl _ _⟩
      case round =>
        obtain ⟨k, hk, rfl, hbel⟩ := hrel
        have CB : Hid (∀ w6 : World, Below wr.heap.size wr w6 → ∀ j, j < n → w6.cell? ⟨gb, j, none⟩ = some (.int .i64 (brkAt (fn l) n j))) := fun w6 b6 j hj => ((hbel.trans (b6.mono hbel.size)).cell (p := ⟨gb, j, none⟩) hgb).trans (HCB.out j hj)
        by_cases hlt : k + 1 < n
        · have i1 : (k : Int) + 1 < (n : Int) := by omega
          have i2 : (k : Int) < (n : Int) := by omega
          have CL : Hid (∀ w6 : World, Below wr.heap.size wr w6 → ∀ j, j < n → w6.cell? ⟨gl, j, none⟩ = some (.int .i64 (fn l j))) := fun w6 b6 j hj => ((hbel.trans (b6.mono hbel.size)).cell (p := ⟨gl, j, none⟩) hgl).trans (HCL.out j hj)
          have OLA : Hid (∀ w6 : World, Below wr.heap.size wr w6 → Arg w6 (.slice (some ⟨gl, 0, none⟩) n cl) l) := fun w6 b6 => (OL4.out.below (hbel.trans (b6.mono hbel.size))).arg
          have c0 := CL.out wr (Below.refl _ _) k (by omega)
          obtain ⟨C, hC⟩ : ∃ C, lineI (fn l k) = C := ⟨_, rfl⟩
          obtain ⟨D, hD⟩ : ∃ D, lineI (fn l (k + 1)) = D := ⟨_, rfl⟩
          have HC : Hid _ := hC
          have HD : Hid _ := hD
          by_cases h4 : C = 4
          · have HB : Hid (brkAt (fn l) n k = 2) := brk_must hlt (by rw [hC]; exact h4)
            subst h4
            clear hC hD
            go_wp2_with fail
            refine (specLine_is _ 4 _ HC).mono ?_
            rintro e w5 ⟨rfl, b5⟩
            have c1 := CL.out w5 b5 (k + 1) (by omega)
            go_wp2_with fail
            refine (specLine_is _ D _ HD).mono ?_
            rintro e w6 ⟨rfl, b6⟩
            have B6 := bstep b5 b6
            have cb := CB.out w6 B6 k (by omega)
            rw [HB.out] at cb
            go_wp2_with fail
            exact ⟨⟨k + 1, by omega, by go_num, hbel.trans (B6.mono hbel.size)⟩, by simp only [intOf]; omega⟩
          · have n4 : (C == 4) = false := by simpa using h4
            rcases brk_low hlt (by rw [hC]; exact h4) with hb | hb
            · have HB : Hid _ := hb
              clear hb hC hD h4
              go_wp2_with fail
              refine (specLine_is _ C _ HC).mono ?_
              rintro e w5 ⟨rfl, b5⟩
              have c1 := CL.out w5 b5 (k + 1) (by omega)
              go_wp2_with fail
              refine (specLine_is _ D _ HD).mono ?_
              rintro e w6 ⟨rfl, b6⟩
              have B6 := bstep b5 b6
              have cb := CB.out w6 B6 k (by omega)
              rw [HB.out] at cb
              go_wp2_with fail
              exact ⟨⟨k + 1, by omega, by go_num, hbel.trans (B6.mono hbel.size)⟩, by simp only [intOf]; omega⟩
            · have HB : Hid _ := hb
              obtain ⟨hj, hd3, hd4, hcd⟩ := brk_may hlt hb
              rw [hD] at hd3 hd4 hcd
              rw [hC] at hcd
              have m3 : (D == 3) = false := by simpa using hd3
              have m4 : (D == 4) = false := by simpa using hd4
              have HAT : Hid (atR l ((k : Int) + 1) = (k : Int) + 1) := by
                show _ = _
                have := atR_yes (l := l) (p := k + 1) HOK.out (by rw [HLN.out]; exact hlt)
                rw [atOf_stop hj] at this
                simpa using this
              clear hb hC hD h4 hj hd3 hd4
              by_cases hd : D = 9 ∨ D = 13
              · obtain ⟨q1, q2⟩ := hcd hd
                have n1 : (C == 1) = false := by simpa using q1
                have n2 : (C == 2) = false := by simpa using q2
                clear hcd q1 q2
                rcases hd with rfl | rfl
                all_goals
                  go_wp2_with fail
                  refine (specLine_is _ C _ HC).mono ?_
                  rintro e w5 ⟨rfl, b5⟩
                  have c1 := CL.out w5 b5 (k + 1) (by omega)
                  go_wp2_with fail
                  refine (specLine_is _ _ _ HD).mono ?_
                  rintro e w6 ⟨rfl, b6⟩
                  have B6 := bstep b5 b6
                  have cb := CB.out w6 B6 k (by omega)
                  rw [HB.out] at cb
                  go_wp2_with fail
                  refine (implAt_is _ l n _ ((k : Int) + 1) _ _ _ HLN rfl (OLA.out w6 B6) (by omega) HAT).mono ?_
                  rintro e w7 ⟨rfl, b7⟩
                  have B7 := bstep B6 b7
                  have cb7 := CB.out w7 B7 k (by omega)
                  rw [HB.out] at cb7
                  go_wp2_with fail
                  exact ⟨⟨k + 1, by omega, by go_num, hbel.trans (B7.mono hbel.size)⟩, by simp only [intOf]; omega⟩
              · have m9 : (D == 9) = false := by simp; omega
                have m13 : (D == 13) = false := by simp; omega
                clear hcd hd
                go_wp2_with fail
                refine (specLine_is _ C _ HC).mono ?_
                rintro e w5 ⟨rfl, b5⟩
                have c1 := CL.out w5 b5 (k + 1) (by omega)
                go_wp2_with fail
                refine (specLine_is _ D _ HD).mono ?_
                rintro e w6 ⟨rfl, b6⟩
                have B6 := bstep b5 b6
                have cb := CB.out w6 B6 k (by omega)
                rw [HB.out] at cb
                go_wp2_with fail
                refine (implAt_is _ l n _ ((k : Int) + 1) _ _ _ HLN rfl (OLA.out w6 B6) (by omega) HAT).mono ?_
                rintro e w7 ⟨rfl, b7⟩
                have B7 := bstep B6 b7
                have cb7 := CB.out w7 B7 k (by omega)
                rw [HB.out] at cb7
                go_wp2_with fail
                exact ⟨⟨k + 1, by omega, by go_num, hbel.trans (B7.mono hbel.size)⟩, by simp only [intOf]; omega⟩
        · have i3 : ¬ ((k : Int) + 1 < (n : Int)) := by omega
          have hkn : k + 1 = n := by omega
          have cb := CB.out wr (Below.refl _ _) k (by omega)
          have HB : Hid (brkAt (fn l) n k = 2) := by show _ = _; unfold brkAt; rw [if_pos hkn]
          rw [HB.out] at cb
          subst hkn
          have i4 : (k : Int) < (k : Int) + 1 := by omega
          go_wp2_with fail
          go_ret
          exact ⟨rfl, bstep B4 hbel⟩
end Go.Proofs.Ytbjcdogbhnadkad
