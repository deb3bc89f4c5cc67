import Derived.Test.YteefeciiaekdlaaScrM
import Derived.Test.YteefeciiaekdlaaBytesRow
import Derived.Test.YteefeciiaekdlaaWcOk
import Derived.Test.YteefeciiaekdlaaAppendAll
namespace Go.Proofs.Yteefeciiaekdlaa
open Go.ChangeShapes Go.WideShapes Go.ChangeAt Go.RowKit
set_option linter.unusedSimpArgs false

set_option maxRecDepth 10000 in
set_option maxHeartbeats 4000000 in
theorem matesLaw (a : Option Addr) (len cap : Nat) (w : World) (h : Bytes w a len cap) :
    Calls Try.prog 4 #[.slice a len cap] w fun e w' => e = .returned (.bool true) ∧ Below w.heap.size w w' := by
  by_cases hbig : 1048576 < len
  · have hbig2 : (1048576 : Int) < (len : Int) := by omega
    go_enter Try.func4, Try.ntmps4
    go_wp2_with fail
    go_ret
    exact ⟨rfl, Below.refl _ _⟩
  · have hbig2 : (len : Int) ≤ 1048576 := by omega
    go_enter Try.func4, Try.ntmps4
    go_wp2_with fail
    refine (drawScrR a len cap w h).mono ?_
    rintro e w1 ⟨⟨v, l, rfl, ol, hlen⟩, b1⟩
    go_wp2_with fail
    refine (implScripts _ l _ ol.arg (by omega)).mono ?_
    rintro e w2 ⟨⟨vs, rfl, os⟩, b2⟩
    go_wp2_with fail
    refine (implSR _ l _ (ol.below b2).arg (by omega)).mono ?_
    rintro e w3 ⟨⟨vr, m, rfl, or⟩, b3⟩
    go_wp2_with fail
    refine (specScriptsOf _ l _ ((ol.below b2).below b3).arg (by omega)).mono ?_
    rintro e w4 ⟨⟨vw, rfl, ow⟩, b4⟩
    have hc80 := scripts_len l
    go_wp2_with fail
    refine (wcInts_yes _ _ (scripts l) _ ((os.below b3).below b4).arg ow.arg (by omega)).mono ?_
    rintro e w5 ⟨rfl, b5⟩
    have hB5 := bstep (bstep (bstep (bstep b1 b2) b3) b4) b5
    have ol5 := (((ol.below b2).below b3).below b4).below b5
    have os5 := ((os.below b3).below b4).below b5
    have or5 := (or.below b4).below b5
    clear ol os ow or
    obtain ⟨n, hn⟩ : ∃ n, l.length = n := ⟨_, rfl⟩
    have HN : Hid (l.length = n) := hn
    rw [hn] at hlen
    obtain ⟨al, cl, rfl⟩ : ∃ al cl, v = .slice al n cl := by
      rcases ol5.forms with ⟨rfl, hs0⟩ | ⟨g, cp, rfl, _⟩
      · rw [hs0] at hn; simp at hn; subst hn; exact ⟨_, _, rfl⟩
      · rw [hn]; exact ⟨_, _, rfl⟩
    go_wp2_with fail
    refine (wcOk_any _ l n _ _ _ HN rfl ol5.arg (by omega)).mono ?_
    rintro e w6 ⟨rfl, b6⟩
    have hB6 := bstep hB5 b6
    have ol6 := ol5.below b6
    have os6 := os5.below b6
    have or6 := or5.below b6
    clear ol5 os5 or5
    by_cases hgo : okF (fn l) n = true ∧ n + 3 ≤ 80
    · obtain ⟨hok, h77⟩ := hgo
      have HOK : Hid (okF (fn l) n = true) := hok
      rw [hok]
      have h77i : (n : Int) + 3 ≤ 80 := by omega
      have hsn : (scripts l).length = n := by rw [← hn] at hok ⊢; rw [scripts_ok hok, scrOut_len]
      have hrm := or6.len
      obtain ⟨e, e0, em, he⟩ := scr_runs hsn hrm
      have HE0 : Hid _ := e0
      have HEM : Hid _ := em
      have HE : Hid (∀ i, i < m → fn (runsR (scripts l)) (i * 3) = (e i : Int) ∧ fn (runsR (scripts l)) (i * 3 + 1) = (e (i + 1) : Int) ∧ e i < e (i + 1) ∧ e (i + 1) ≤ n ∧ ∀ p, e i ≤ p → p < e (i + 1) → fn (scripts l) p = fn (runsR (scripts l)) (i * 3 + 2)) := he
      have hm80 : m ≤ 81 := by have := runsR_len (scripts l); omega
      have hpl := lone_all (z := fn l) (n := n) (fun j hj => okF_get hok hj) n (Nat.le_refl _)
      have hll := lone_len (fn l) n
      obtain ⟨q1, q2, q3⟩ := mates_scr hpl (by omega)
      obtain ⟨P, hP⟩ : ∃ P, lone (fn l) n = P := ⟨_, rfl⟩
      rw [hP] at q1 q2 q3 hll
      have HP : Hid (lone (fn l) n = P) := hP
      have HQ2 : Hid _ := q2
      have HQ3 : Hid _ := q3
      have HQ1 : Hid _ := q1
      have HCL : Hid (∀ w' j, Below w6.heap.size w6 w' → j < n → ∃ g, al = some ⟨g, 0, none⟩ ∧ w'.cell? ⟨g, j, none⟩ = some (.int .i64 (fn l j))) := fun w' j hb hj => by
        rcases ol6.forms with ⟨hh, _⟩ | ⟨g, cp, hh, _⟩
        · simp only [Value.slice.injEq] at hh; omega
        · simp only [Value.slice.injEq] at hh
          obtain ⟨rfl, _⟩ := hh
          exact ⟨g, rfl, (ol6.below hb).cellN j hj⟩
      have s6 := hB6.size
      obtain ⟨sa, cs, rfl⟩ : ∃ sa cs, vs = .slice sa n cs := by
        rcases os6.forms with ⟨rfl, hs0⟩ | ⟨g, cp, rfl, _⟩
        · rw [hs0] at hsn; simp at hsn; subst hsn; exact ⟨_, _, rfl⟩
        · rw [hsn]; exact ⟨_, _, rfl⟩
      obtain ⟨ra, cr, rfl⟩ : ∃ ra cr, vr = .slice ra m cr := by
        rcases or6.forms with ⟨rfl, rfl⟩ | ⟨g, cp, rfl, _⟩
        · exact ⟨_, _, rfl⟩
        · exact ⟨_, _, rfl⟩
      have HCS : Hid (∀ w' j, Below w6.heap.size w6 w' → j < n → ∃ g, sa = some ⟨g, 0, none⟩ ∧ w'.cell? ⟨g, j, none⟩ = some (.int .i64 (fn (scripts l) j))) := fun w' j hb hj => by
        rcases os6.forms with ⟨hh, _⟩ | ⟨g, cp, hh, _⟩
        · simp only [Value.slice.injEq] at hh; omega
        · simp only [Value.slice.injEq] at hh
          obtain ⟨rfl, _⟩ := hh
          exact ⟨g, rfl, (os6.below hb).cellN j hj⟩
      have HCR : Hid (∀ w' j, Below w6.heap.size w6 w' → j < m * 3 → ∃ g, ra = some ⟨g, 0, none⟩ ∧ w'.cell? ⟨g, j, none⟩ = some (.int .i64 (fn (runsR (scripts l)) j))) := fun w' j hb hj => by
        rcases or6.forms with ⟨hh, h0⟩ | ⟨g, cp, hh, _⟩
        · omega
        · simp only [Value.slice.injEq] at hh
          obtain ⟨rfl, _⟩ := hh
          exact ⟨g, rfl, (or6.below hb).cell j hj⟩
      clear hok q1 q2 q3 hP hpl he e0 em hrm hn
      go_wp2_with fail
      go_loopw [6, 7] (fun q i wr => ∃ (k : Nat) (g cp : Nat), k ≤ n ∧ i = .int .i64 k ∧ q = .slice (some ⟨g, 0, none⟩) (lone (fn l) k).length cp ∧ OwnI wr w6.heap.size (.slice (some ⟨g, 0, none⟩) (lone (fn l) k).length cp) (lone (fn l) k) ∧ Below w6.heap.size w6 wr) (fun _ i _ => n - (intOf i).toNat)
      case atStart => exact ⟨0, _, _, Nat.zero_le _, rfl, rfl, own_empty w6 w6.heap.size 3 (Nat.le_refl _) rfl, by go_grown⟩
      case round =>
        obtain ⟨k, g, cp, hk, rfl, rfl, hown, hbel⟩ := hrel
        have hkl := lone_len (fn l) k
        by_cases hlt : k < n
        · have hki : (k : Int) < (n : Int) := by omega
          obtain ⟨gl, rfl, hc⟩ := HCL.out wr k hbel hlt
          obtain ⟨r, hr⟩ : ∃ r, fn l k = r := ⟨_, rfl⟩
          rw [hr] at hc
          by_cases hz : mate r = 0
          · have hz1 : (mate r == 0) = true := by simpa using hz
            have HL : Hid (lone (fn l) (k + 1) = lone (fn l) k ++ [r]) := by show _ = _; simp only [lone]; rw [hr, if_pos hz]
            obtain ⟨F, hF⟩ : ∃ F, lone (fn l) k = F := ⟨_, rfl⟩
            rw [hF] at HL hown hkl ⊢
            clear hz hr hF
            go_wp2_with (first
              | (go_at_call 15; refine (implMate _ _).mono ?_; rintro e w' ⟨rfl, rfl⟩)
              | (at_builtin; refine own_append (.tmp 55) (.tmp 60) hown (by omega) hbel.size rfl rfl rfl rfl ?_; intro v5 w5 o5 g5))
            obtain ⟨g', cp', rfl⟩ : ∃ g' cp', v5 = .slice (some ⟨g', 0, none⟩) (F ++ [r]).length cp' := by
              rcases o5.forms with ⟨_, hh⟩ | ⟨g', cp', hh, _⟩
              · simp at hh
              · exact ⟨_, _, hh⟩
            exact ⟨⟨k + 1, g', cp', by omega, by go_num, by rw [HL.out], by rw [HL.out]; exact o5, grown_below hbel g5 hown (Nat.le_refl _) hbel.size⟩, by simp only [intOf]; omega⟩
          · have hz1 : (mate r == 0) = false := by simpa using hz
            have HL : Hid (lone (fn l) (k + 1) = lone (fn l) k) := by show _ = _; simp only [lone]; rw [hr, if_neg hz]
            obtain ⟨F, hF⟩ : ∃ F, lone (fn l) k = F := ⟨_, rfl⟩
            rw [hF] at HL hown hkl ⊢
            clear hz hr hF
            go_wp2_with (go_at_call 15; refine (implMate _ _).mono ?_; rintro e w' ⟨rfl, rfl⟩)
            exact ⟨⟨k + 1, g, cp, by omega, by go_num, by rw [HL.out], by rw [HL.out]; exact hown, hbel⟩, by simp only [intOf]; omega⟩
        · have e : k = n := by omega
          subst e
          rw [HP.out] at hown ⊢
          have HAT : Hid (At wr g 0 P) := by
            rcases hown.forms with ⟨hh, _⟩ | ⟨g', cp', hh, _, _, _, _, hat⟩
            · cases hh
            · simp only [Value.slice.injEq, Option.some.injEq, Addr.mk.injEq] at hh; obtain ⟨⟨rfl, _⟩, _⟩ := hh; exact hat
          have hgw := (hown.lt g rfl).2
          have hbs := hbel.size
          have OT : Hid (OwnI (wr.alloc (.cells #[.int .i64 97, .int .i64 40] 3)) w6.heap.size (.slice (some ⟨wr.heap.size, 0, none⟩) 2 2) [97, 40]) := own_two wr w6.heap.size 97 40 hbs
          have HAT2 : Hid (At (wr.alloc (.cells #[.int .i64 97, .int .i64 40] 3)) g 0 P) := HAT.out.below ((Below.refl _ _).alloc (Nat.le_refl _) _) hgw
          clear hown
          go_wp2_with (first
            | (at_builtin; refine own_append (.tmp 64) (.tmp 65) O7.out ?_ S7.out rfl rfl rfl rfl ?_; (· simp; omega); intro v8 w8 o8 g8; have O8 : Hid _ := o8; have G8 : Hid _ := g8)
            | (at_builtin; refine own_appendAll (.tmp 62) (.tmp 63) OT.out rfl ?_ ?_ HAT2.out rfl rfl rfl rfl ?_; (· simp; omega); (· simp; omega); intro v7 w7 o7 g7; have O7 : Hid _ := o7; have G7 : Hid _ := g7; have S7 : Hid (w6.heap.size ≤ w7.heap.size) := (by have := g7.size; simp at this; show _ ≤ _; omega)))
          have B7 : Below w6.heap.size w6 w7 := (hbel.alloc hbs _).grown G7.out (by simp; omega) (fun k hk => by simp [Value.ownBlock] at hk; omega)
          have B8 : Below w6.heap.size w6 w8 := grown_below B7 G8.out O7.out (Nat.le_refl _) S7.out
          refine (implScripts _ ([97, 40] ++ P ++ [41]) _ (OwnI.arg O8.out) (by simp; omega)).mono ?_
          rintro e9 w9 ⟨⟨vt, rfl, ot⟩, b9⟩
          have B9 := bstep B8 b9
          obtain ⟨X, hX⟩ : ∃ X, scripts ([97, 40] ++ P ++ [41]) = X := ⟨_, rfl⟩
          rw [hX] at ot HQ1 HQ2 HQ3
          have hq1 := HQ1.out
          obtain ⟨gt, ct, rfl⟩ : ∃ gt ct, vt = .slice (some ⟨gt, 0, none⟩) (P.length + 3) ct := by
            rcases ot.forms with ⟨_, hh⟩ | ⟨g', cp', hh, _⟩
            · rw [hh] at hq1; simp at hq1
            · rw [hq1] at hh; exact ⟨_, _, hh⟩
          have HCT : Hid (∀ w', Below w9.heap.size w9 w' → w'.cell? ⟨gt, 1, none⟩ = some (.int .i64 1) ∧ w'.cell? ⟨gt, P.length + 2, none⟩ = some (.int .i64 1)) := fun w' hb => by
            have o := ot.below hb
            exact ⟨by rw [o.cellN 1 (by omega), HQ2.out], by rw [o.cellN (P.length + 2) (by omega), HQ3.out]⟩
          clear ot hX hq1 HAT HAT2 OT O7 O8 G7 G8 B7 B8 hbel hgw hbs b9 S7
          go_wp2_with fail
          go_loopw [10, 11] (fun q i wx => ∃ j : Nat, j ≤ m ∧ i = .int .i64 j ∧ q = .int .i64 (e j) ∧ Hid (Below w9.heap.size w9 wx)) (fun _ i _ => m - (intOf i).toNat)
          case atStart => exact ⟨0, Nat.zero_le _, rfl, by rw [HE0.out]; rfl, Below.refl _ _⟩
          case round =>
            obtain ⟨j, hj, rfl, rfl, hbx⟩ := hrel
            by_cases hjm : j < m
            · have hji : (j : Int) < (m : Int) := by omega
              have BX := bstep B9 hbx.out
              obtain ⟨h1, h2, h3, h4, h5⟩ := HE.out j hjm
              obtain ⟨gr, hra, hc0⟩ := HCR.out _ (j * 3) BX (by omega)
              have HC1 : Hid (∀ w', Below w6.heap.size w6 w' → w'.cell? ⟨gr, j * 3 + 1, none⟩ = some (.int .i64 (e (j + 1))) ∧ w'.cell? ⟨gr, j * 3 + 2, none⟩ = some (.int .i64 (fn (runsR (scripts l)) (j * 3 + 2)))) := fun w' hb => by
                obtain ⟨g1, r1, c1⟩ := HCR.out w' (j * 3 + 1) hb (by omega)
                obtain ⟨g2, r2, c2⟩ := HCR.out w' (j * 3 + 2) hb (by omega)
                rw [hra] at r1 r2
                simp only [Option.some.injEq, Addr.mk.injEq] at r1 r2
                obtain ⟨rfl, _⟩ := r1
                obtain ⟨rfl, _⟩ := r2
                rw [h2] at c1
                exact ⟨c1, c2⟩
              rw [h1] at hc0
              have H5 : Hid (∀ p, e j ≤ p → p < e (j + 1) → fn (scripts l) p = fn (runsR (scripts l)) (j * 3 + 2)) := h5
              obtain ⟨V, hV⟩ : ∃ V, fn (runsR (scripts l)) (j * 3 + 2) = V := ⟨_, rfl⟩
              rw [hV] at HC1 H5
              obtain ⟨t, ht⟩ : ∃ t, e (j + 1) = t := ⟨_, rfl⟩
              have HT : Hid (e (j + 1) = t) := ht
              rw [ht] at HC1 H5 h3 h4
              obtain ⟨f, hf⟩ : ∃ f, e j = f := ⟨_, rfl⟩
              rw [hf] at hc0 H5 h3 ⊢
              subst hra
              clear h1 h2 h5 hV ht hf
              go_wp2_with fail
              go_loopw [10, 12] (fun q i wy => ∃ c : Nat, f ≤ c ∧ c ≤ t ∧ i = .int .i64 c ∧ q = .int .i64 c ∧ Hid (Below w9.heap.size w9 wy)) (fun _ i _ => t - (intOf i).toNat)
              case atStart => exact ⟨f, Nat.le_refl _, by omega, rfl, rfl, hbx⟩
              case round =>
                clear hc0
                obtain ⟨c, hfc, hct, rfl, rfl, hby⟩ := hrel
                have BY := bstep B9 hby.out
                obtain ⟨d1, d2⟩ := HC1.out _ BY
                by_cases hlt2 : c < t
                · have hci : (c : Int) < (t : Int) := by omega
                  obtain ⟨gs, rfl, hs⟩ := HCS.out _ c BY (by omega)
                  rw [H5.out c hfc hlt2] at hs
                  have hck : (c : Int) < (k : Int) := by omega
                  go_wp2_with fail
                  go_quiet (fail)
                  go_wp2_with fail
                  exact ⟨⟨c + 1, by omega, by omega, by go_num, by go_num, bstep hby.out (below_draws _ _)⟩, by simp only [intOf]; omega⟩
                · have ec : c = t := by omega
                  subst ec
                  go_wp2_with fail
                  exact ⟨⟨j + 1, by omega, by go_num, by rw [HT.out], hby⟩, by simp only [intOf]; omega⟩
            · have ej : j = m := by omega
              subst ej
              rw [HEM.out]
              obtain ⟨t1, t2⟩ := HCT.out _ hbx.out
              go_wp2_with fail
              go_ret
              exact ⟨rfl, bstep hB6 (bstep B9 hbx.out)⟩
    · have HG : Hid ((okF (fn l) n = false) ∨ (okF (fn l) n = true ∧ 80 < n + 3)) := by
        cases hh : okF (fn l) n
        · exact Or.inl rfl
        · exact Or.inr ⟨rfl, by rcases Nat.lt_or_ge 80 (n + 3) with q | q
                                · exact q
                                · exact absurd ⟨hh, q⟩ hgo⟩
      clear hgo
      rcases HG.out with hok | ⟨hok, h78⟩
      · rw [hok]
        go_wp2_with fail
        refine (specScriptsOf _ l _ ol6.arg (by rw [HN.out]; omega)).mono ?_
        rintro e w7 ⟨⟨vw7, rfl, ow7⟩, b7⟩
        go_wp2_with fail
        refine (wcInts_yes _ _ (scripts l) _ (os6.below b7).arg ow7.arg (by omega)).mono ?_
        rintro e w8 ⟨rfl, b8⟩
        go_wp2_with fail
        go_ret
        exact ⟨rfl, bstep (bstep hB6 b7) b8⟩
      · have h78i : (80 : Int) < (n : Int) + 3 := by omega
        rw [hok]
        go_wp2_with fail
        refine (specScriptsOf _ l _ ol6.arg (by rw [HN.out]; omega)).mono ?_
        rintro e w7 ⟨⟨vw7, rfl, ow7⟩, b7⟩
        go_wp2_with fail
        refine (wcInts_yes _ _ (scripts l) _ (os6.below b7).arg ow7.arg (by omega)).mono ?_
        rintro e w8 ⟨rfl, b8⟩
        go_wp2_with fail
        go_ret
        exact ⟨rfl, bstep (bstep hB6 b7) b8⟩
end Go.Proofs.Yteefeciiaekdlaa
