import Derived.Test.YteefeciiaekdlaaScrMath
import Derived.Test.YteefeciiaekdlaaPairRow
namespace Go.Proofs.Yteefeciiaekdlaa
open Go.ChangeShapes Go.WideShapes Go.ChangeAt Go.RowKit
set_option linter.unusedSimpArgs false

set_option maxHeartbeats 1000000 in
theorem specFirst (b off cap n : Nat) (l : List Int) (w : World) (hn : l.length = n) (hat : At w b off l) (hl : n ≤ 4194304) :
    Calls Try.prog 57 #[.slice (some ⟨b, off, none⟩) n cap] w fun e w' => e = .returned (.int .i64 (firstS (fn l) n n)) ∧ w' = w := by
  go_enter Try.func57, Try.ntmps57
  go_wp2
  go_loop [3] (fun i => ∃ k : Nat, k ≤ n ∧ i = .int .i64 k ∧ Hid (firstS (fn l) n n = firstS (fn l) n (n - k))) (fun i => n - (intOf i).toNat)
  case atStart => exact ⟨0, Nat.zero_le _, rfl, rfl⟩
  case round =>
    obtain ⟨k, hk, rfl, hf⟩ := hrel
    by_cases hlt : k < n
    · have hcell : w.cell? ⟨b, off + k, none⟩ = some (.int .i64 (fn l k)) := hat k (by omega)
      by_cases hq : scr (fn l k) = 0
      · have hs : (scr (fn l k) == 0) = true := by simpa using hq
        have HS : Hid _ := firstS_no hlt hq
        clear hq
        go_wp2_with (go_at_call 14; refine (specScr _ _).mono ?_; rintro e w' ⟨rfl, rfl⟩)
        go_round
        case rel => exact ⟨k + 1, by omega, by go_num, hf.out.trans HS.out⟩
        case measure => simp only [intOf]; omega
      · have hs : (scr (fn l k) == 0) = false := by simpa using hq
        have HS : Hid _ := firstS_yes hlt hq
        clear hq
        go_wp2_with (go_at_call 14; refine (specScr _ _).mono ?_; rintro e w' ⟨rfl, rfl⟩)
        go_ret
        exact ⟨retInt (hf.out.trans HS.out).symm, rfl⟩
    · have e : k = n := by omega
      subst e
      go_wp2
      go_ret
      exact ⟨retInt (by rw [hf.out]; simp [firstS]), rfl⟩

theorem pairT_spec : PairT 76 := ⟨by kernel_rfl, by kernel_rfl⟩
theorem grown_belowP {T : TypeId} {W w w' : World} {B0 B n : Nat} {v : Value} {l : List Int} (hb : Below B0 W w) (hg : w.grownBy w' v.ownBlock) (ho : OwnP T w B v n l) (h0 : B0 ≤ B) (h1 : B0 ≤ w.heap.size) : Below B0 W w' :=
  hb.grown hg h1 (fun k hk => Nat.le_trans h0 (ho.lt k hk).1)
/-- The specification's row of what is open: mates instead of brackets. -/
def Mated (z y : Nat → Int) (m : Nat) : Prop := ∀ k, k < m → y (k * 2) = mate (z (k * 2)) ∧ y (k * 2 + 1) = z (k * 2 + 1)

set_option maxRecDepth 10000 in
set_option maxHeartbeats 8000000 in
theorem specScripts (b off cap n : Nat) (l : List Int) (w : World) (hn : l.length = n) (hb : b < w.heap.size) (hat : At w b off l) (hl : n ≤ 80) :
    Calls Try.prog 39 #[.slice (some ⟨b, off, none⟩) n cap] w fun e w' => (∃ v', e = .returned v' ∧ OwnI w' w.heap.size v' (scrOut (fn l) (firstS (fn l) n n) n)) ∧ Below w.heap.size w w' := by
  go_enter Try.func39, Try.ntmps39
  go_wp2_with fail
  have b0 : Below w.heap.size w ((w.alloc (.cells #[] 3)).alloc (.cells #[] 76)) := by go_grown
  refine (specFirst b off cap n l _ hn (hat.below b0 hb) (by omega)).mono ?_
  rintro e w1 ⟨rfl, hw1⟩
  obtain ⟨f, hf⟩ : ∃ f, firstS (fn l) n n = f := ⟨_, rfl⟩
  have HF : Hid (firstS (fn l) n n = f) := hf
  rw [hf]
  clear hf
  have o1 : OwnI w1 w.heap.size (.slice (some ⟨w.heap.size, 0, none⟩) 0 0) [] := by
    rw [hw1]; exact World.ownsRow.alloc (own_empty w w.heap.size 3 (Nat.le_refl _) rfl) _
  have p1 : OwnP 76 w1 w.heap.size (.slice (some ⟨w.heap.size + 1, 0, none⟩) 0 0) 0 [] := by
    rw [hw1]; have := OwnP.empty 76 (w.alloc (.cells #[] 3)) w.heap.size (by simp); simpa using this
  have b1 : Below w.heap.size w w1 := by rw [hw1]; exact b0
  have ap1 : Apart (.slice (some ⟨w.heap.size, 0, none⟩) 0 0) (.slice (some ⟨w.heap.size + 1, 0, none⟩) 0 0) := fun k h1 h2 => by simp [Value.ownBlock] at h1 h2; omega
  clear hw1 b0
  go_wp2_with fail
  go_loopw [3, 4, 5, 6] (fun q o s i wr => ∃ (k m : Nat) (y : List Int), k ≤ n ∧ i = .int .i64 k ∧ s = .int .i64 (sAt (fn l) f k).1 ∧ m ≤ k ∧ Hid ((sAt (fn l) f k).2.length = m * 2) ∧ Hid (OpenOk (fn (sAt (fn l) f k).2) m) ∧ Hid (Mated (fn (sAt (fn l) f k).2) (fn y) m) ∧ OwnI wr w.heap.size q (scrOut (fn l) f k) ∧ OwnP 76 wr w.heap.size o m y ∧ Hid (Apart q o) ∧ Below w.heap.size w wr) (fun _ _ _ i _ => n - (intOf i).toNat)
  case atStart => exact ⟨0, 0, [], Nat.zero_le _, rfl, rfl, Nat.le_refl _, rfl, fun k hk => by omega, fun k hk => by omega, o1, p1, ap1, b1⟩
  case round =>
    clear o1 p1 ap1 b1
    obtain ⟨k, m, y, hk, rfl, rfl, hmk, hst, hop, hmt, hq, ho, hap, hbel⟩ := hrel
    by_cases hlt : k < n
    · have hki : (k : Int) < (n : Int) := by omega
      have hout := scrOut_len (fn l) f k
      obtain ⟨r, hr⟩ : ∃ r, fn l k = r := ⟨_, rfl⟩
      obtain ⟨ls, hls⟩ : ∃ ls, (sAt (fn l) f k).1 = ls := ⟨_, rfl⟩
      obtain ⟨st, hsst⟩ : ∃ st, (sAt (fn l) f k).2 = st := ⟨_, rfl⟩
      have HS : Hid (sAt (fn l) f (k + 1) = sStep ls st r) := by show _ = _; rw [← hls, ← hsst, ← hr]; rfl
      have HO : Hid (∀ x, (sStep ls st r).1 = x → scrOut (fn l) f (k + 1) = scrOut (fn l) f k ++ [x]) := fun x hx => by
        rw [scrOut, HS.out, hx]
      have HC : Hid (∀ w', Below w.heap.size w w' → w'.cell? ⟨b, off + k, none⟩ = some (.int .i64 r)) := fun w' h => by
        have := (hat.below h hb) k (by omega)
        rw [hr] at this; exact this
      have hcell := HC.out wr hbel
      rw [hls]
      rw [hsst] at hst hop hmt
      obtain ⟨ao, co, rfl⟩ := ho.slc
      clear hr hls hsst
      have hmate : Calls Try.prog 58 #[.int .i64 r] wr fun e w' => e = .returned (.int .i64 (mate r)) ∧ Below wr.heap.size wr w' := specMate r wr
      by_cases ha : scr r = 0
      · have hs : (scr r == 0) = true := by simpa using ha
        by_cases hbb : r < mate r
        · have HN : Hid (sStep ls st r = (ls, st ++ [r, ls])) := sStep_open ha hbb
          have hno : ¬ mate r < r := by omega
          clear ha
          go_wp2_with (first
            | (at_builtin; refine own_appendP (.tmp 40) (.tmp 44) pairT_spec Try.underlying74 (ho.below b2) (by omega) B2.size rfl rfl rfl rfl ?_; intro v4 w4 p4 g4 at4; have q4 := (hq.below b2).apart g4 hap.out.symm; have ap4 := (hap.out.symm.nextP2 (hq.below b2) at4).symm; have B4 := grown_belowP B2 g4 (ho.below b2) (Nat.le_refl _) B2.size; have hcell4 := HC.out _ B4; obtain ⟨av4, cv4, hv4⟩ := p4.slc; subst hv4)
            | (go_at_call 14; refine (specScr _ _).mono ?_; rintro e w' ⟨rfl, rfl⟩)
            | (go_at_call 58; refine hmate.mono ?_; rintro e w2 ⟨rfl, b2⟩; have B2 := hbel.trans (b2.mono hbel.size); have hcell2 := HC.out _ B2))
          have HM : Hid (Mated (fn (st ++ [r, ls])) (fn (y ++ [mate r, ls])) (m + 1)) := by
            intro j hj
            have hyl := ho.len
            have hsl := hst.out
            by_cases e : j = m
            · subst e
              simp [fn, List.getD, hyl, hsl]
            · rw [fn_append_left (by omega), fn_append_left (by omega), fn_append_left (by omega), fn_append_left (by omega)]
              exact hmt.out j (by omega)
          have HP : Hid (OpenOk (fn (st ++ [r, ls])) (m + 1)) := by
            intro j hj
            have hsl := hst.out
            by_cases e : j = m
            · subst e
              have : fn (st ++ [r, ls]) (j * 2) = r := by simp [fn, List.getD, hsl]
              rw [this]
              have := mate_cases r
              exact ⟨hbb, by omega⟩
            · rw [fn_append_left (by omega)]; exact hop.out j (by omega)
          have AP : Hid (Apart u3 (.slice av4 (m + 1) cv4)) := ap4
          clear ap4 at4 g4
          go_loopw [4, 5, 7, 9] (fun o s t i w' => o = .slice av4 (m + 1) cv4 ∧ s = .int .i64 ls ∧ t = .int .i64 ls ∧ i = .int .i64 (m : Int) ∧ w' = w4) (fun _ _ _ _ _ => 0)
          case atStart => exact ⟨rfl, rfl, rfl, by go_num, rfl⟩
          case round =>
            obtain ⟨rfl, rfl, rfl, rfl, rfl⟩ := hrel
            by_cases hz : mate r = 0
            · have hz1 : (mate r == 0) = true := by simpa using hz
              clear hz
              go_wp2_with (at_builtin; refine own_append_at (.tmp 84) (.tmp 86) q4 (by omega) B4.size rfl rfl rfl rfl ?_; intro v5 w5 q5 g5 at5)
              all_goals exact ⟨⟨k + 1, m + 1, y ++ [mate r, ls], by omega, by go_num, by rw [HS.out, HN.out], by omega, by show _ = _; rw [HS.out, HN.out]; simp [hst.out]; omega, by rw [HS.out, HN.out]; exact HP, by rw [HS.out, HN.out]; exact HM, by rw [HO.out ls (by rw [HN.out])]; exact q5, p4.apart g5 AP.out, AP.out.nextP p4 at5, grown_below B4 g5 q4 (Nat.le_refl _) B4.size⟩, by simp only [intOf]; omega⟩
            · have hz1 : (mate r == 0) = false := by simpa using hz
              clear hz
              go_wp2_with (at_builtin; refine own_append_at (.tmp 84) (.tmp 86) q4 (by omega) B4.size rfl rfl rfl rfl ?_; intro v5 w5 q5 g5 at5)
              all_goals exact ⟨⟨k + 1, m + 1, y ++ [mate r, ls], by omega, by go_num, by rw [HS.out, HN.out], by omega, by show _ = _; rw [HS.out, HN.out]; simp [hst.out]; omega, by rw [HS.out, HN.out]; exact HP, by rw [HS.out, HN.out]; exact HM, by rw [HO.out ls (by rw [HN.out])]; exact q5, p4.apart g5 AP.out, AP.out.nextP p4 at5, grown_below B4 g5 q4 (Nat.le_refl _) B4.size⟩, by simp only [intOf]; omega⟩
        · have hno : ¬ r < mate r := hbb
          by_cases hz : mate r = 0
          · have HN : Hid (sStep ls st r = (ls, st)) := sStep_none ha hbb hz
            have hz1 : (mate r == 0) = true := by simpa using hz
            clear ha hbb hz1
            go_wp2_with (first
            | (go_at_call 14; refine (specScr _ _).mono ?_; rintro e w' ⟨rfl, rfl⟩)
            | (go_at_call 58; refine hmate.mono ?_; rintro e w2 ⟨rfl, b2⟩; have B2 := hbel.trans (b2.mono hbel.size); have hcell2 := HC.out _ B2))
            go_loopw [4, 5, 7, 9] (fun o s t i w' => o = .slice ao m co ∧ s = .int .i64 ls ∧ t = .int .i64 ls ∧ i = .int .i64 ((m : Int) - 1) ∧ w' = w2) (fun _ _ _ _ _ => 0)
            case atStart => exact ⟨rfl, rfl, rfl, by go_num, rfl⟩
            case round =>
              obtain ⟨rfl, rfl, rfl, rfl, rfl⟩ := hrel
              by_cases hm0 : m = 0
              · subst hm0
                go_wp2_with (at_builtin; refine own_append_at (.tmp 84) (.tmp 86) (hq.below b2) (by omega) B2.size rfl rfl rfl rfl ?_; intro v5 w5 q5 g5 at5)
                all_goals exact ⟨⟨k + 1, 0, y, by omega, by go_num, by rw [HS.out, HN.out], by omega, by rw [HS.out, HN.out]; exact hst, by rw [HS.out, HN.out]; exact hop, by rw [HS.out, HN.out]; exact hmt, by rw [HO.out ls (by rw [HN.out])]; exact q5, (ho.below b2).apart g5 hap.out, hap.out.nextP (ho.below b2) at5, grown_below B2 g5 (hq.below b2) (Nat.le_refl _) B2.size⟩, by simp only [intOf]; omega⟩
              · have hmi : (0 : Int) ≤ (m : Int) - 1 := by omega
                go_wp2_with (at_builtin; refine own_append_at (.tmp 84) (.tmp 86) (hq.below b2) (by omega) B2.size rfl rfl rfl rfl ?_; intro v5 w5 q5 g5 at5)
                all_goals exact ⟨⟨k + 1, m, y, by omega, by go_num, by rw [HS.out, HN.out], by omega, by rw [HS.out, HN.out]; exact hst, by rw [HS.out, HN.out]; exact hop, by rw [HS.out, HN.out]; exact hmt, by rw [HO.out ls (by rw [HN.out])]; exact q5, (ho.below b2).apart g5 hap.out, hap.out.nextP (ho.below b2) at5, grown_below B2 g5 (hq.below b2) (Nat.le_refl _) B2.size⟩, by simp only [intOf]; omega⟩
          · have hz1 : (mate r == 0) = false := by simpa using hz
            have hml : mate r < r := by have := mate_cases r; omega
            have HFL : Hid (∀ j, j < m → (fn y (j * 2) = r ↔ fn st (j * 2) = mate r)) := fun j hj => by
              rw [(hmt.out j hj).1]; exact mate_flip (hop.out j hj).1 hml
            have HMS : Hid (lastB (fn st) (mate r) m = none → sStep ls st r = (ls, st)) := fun h => sStep_miss ha hbb hz hst.out h
            have HHT : Hid (∀ i, lastB (fn st) (mate r) m = some i → sStep ls st r = (fn st (i * 2 + 1), st.take (i * 2))) := fun i h => sStep_hit ha hbb hz hst.out h
            clear ha hbb hz1
            go_wp2_with (first
            | (go_at_call 14; refine (specScr _ _).mono ?_; rintro e w' ⟨rfl, rfl⟩)
            | (go_at_call 58; refine hmate.mono ?_; rintro e w2 ⟨rfl, b2⟩; have B2 := hbel.trans (b2.mono hbel.size); have hcell2 := HC.out _ B2))
            go_loopw [4, 5, 7, 9] (fun o s t i w' => ∃ j : Nat, j ≤ m ∧ o = .slice ao m co ∧ s = .int .i64 ls ∧ t = .int .i64 ls ∧ i = .int .i64 ((j : Int) - 1) ∧ Below w2.heap.size w2 w' ∧ Hid (∀ i', j ≤ i' → i' < m → fn st (i' * 2) ≠ mate r)) (fun _ _ _ i _ => (intOf i + 1).toNat)
            case atStart => exact ⟨m, Nat.le_refl _, rfl, rfl, rfl, by go_num, Below.refl _ _, fun i' h1 h2 => by omega⟩
            case round =>
              clear hcell hcell2 hmate
              obtain ⟨j, hj, rfl, rfl, rfl, rfl, hb3, hno3⟩ := hrel
              have B3 := bstep B2 hb3
              have q3 := (hq.below b2).below hb3
              have p3 := (ho.below b2).below hb3
              have hcell3 := HC.out _ B3
              by_cases hj0 : j = 0
              · subst hj0
                have HN : Hid (sStep ls st r = (ls, st)) := HMS.out (lastB_none fun i hi => hno3.out i (by omega) hi)
                go_wp2_with (at_builtin; refine own_append_at (.tmp 84) (.tmp 86) q3 (by omega) B3.size rfl rfl rfl rfl ?_; intro v5 w5 q5 g5 at5)
                all_goals exact ⟨⟨k + 1, m, y, by omega, by go_num, by rw [HS.out, HN.out], by omega, by rw [HS.out, HN.out]; exact hst, by rw [HS.out, HN.out]; exact hop, by rw [HS.out, HN.out]; exact hmt, by rw [HO.out ls (by rw [HN.out])]; exact q5, p3.apart g5 hap.out, hap.out.nextP p3 at5, grown_below B3 g5 q3 (Nat.le_refl _) B3.size⟩, by simp only [intOf]; omega⟩
              · obtain ⟨i, rfl⟩ : ∃ i, j = i + 1 := ⟨j - 1, by omega⟩
                have him : i < m := by omega
                obtain ⟨g, rfl⟩ : ∃ g, ao = some ⟨g, 0, none⟩ := by
                  rcases ho.forms with ⟨_, e⟩ | ⟨g, cp, e, _⟩
                  · omega
                  · simp only [Value.slice.injEq] at e; exact ⟨g, e.1⟩
                have hcap : m ≤ co := by
                  rcases ho.forms with ⟨e, _⟩ | ⟨g, cp, e, _, _, h4, _⟩
                  · cases e
                  · simp only [Value.slice.injEq] at e; omega
                have cy0 := p3.cell (i * 2) (by omega)
                have cy1 := p3.cell (i * 2 + 1) (by omega)
                have hii : (i : Int) < (m : Int) := by omega
                by_cases hq2 : fn y (i * 2) = r
                · have HL : Hid (lastB (fn st) (mate r) m = some i) := lastB_hit him ((HFL.out i him).1 hq2) (fun i' h1 h2 => hno3.out i' (by omega) h2)
                  have HN := HHT.out i HL.out
                  rw [← (hmt.out i him).2] at HN
                  rw [hq2] at cy0
                  have HN2 : Hid (sStep ls st r = (fn y (i * 2 + 1), st.take (i * 2))) := HN
                  obtain ⟨x, hx⟩ : ∃ x, fn y (i * 2 + 1) = x := ⟨_, rfl⟩
                  rw [hx] at cy1 HN2
                  clear hq2 HN hx
                  go_wp2_with fail
                  go_quiet (fail)
                  go_wp2_with (at_builtin; refine own_append_at (.tmp 84) (.tmp 86) (q3.below (below_draws _ _)) (by omega) B3.size rfl rfl rfl rfl ?_; intro v5 w5 q5 g5 at5)
                  have h1 := hst.out
                  have ph := (p3.head i (by omega)).below (below_draws _ nq)
                  have API : Apart u3 (.slice (some ⟨g, 0, none⟩) i co) := fun a h1 h2 => hap.out a h1 h2
                  exact ⟨⟨k + 1, i, y.take (i * 2), by omega, by go_num, by rw [HS.out, HN2.out], by omega, by show _ = _; rw [HS.out, HN2.out]; simp; omega, by
                    rw [HS.out, HN2.out]
                    exact fun j hj => by
                      have := hop.out j (by omega)
                      rwa [← fn_take (n := i * 2) (by omega)] at this, by
                    rw [HS.out, HN2.out]
                    exact fun j hj => by
                      have := hmt.out j (by omega)
                      rw [fn_take (by omega), fn_take (by omega), fn_take (by omega), fn_take (by omega)]
                      exact this, by rw [HO.out x (by rw [HN2.out])]; exact q5, OwnP.apart ph g5 API, API.nextP ph at5, grown_below (bstep B3 (below_draws _ nq)) g5 (q3.below (below_draws _ nq)) (Nat.le_refl _) B3.size⟩, by simp only [intOf]; omega⟩
                · have hq3 : (fn y (i * 2) == r) = false := by simpa using hq2
                  have hq4 : fn st (i * 2) ≠ mate r := fun e => hq2 ((HFL.out i him).2 e)
                  have HQ : Hid _ := hq4
                  clear hq2 hq4
                  go_wp2_with fail
                  go_quiet (fail)
                  go_wp2_with fail
                  all_goals exact ⟨⟨i, by omega, rfl, rfl, rfl, by go_num, bstep hb3 (below_draws _ _), fun i' h1 h2 => by
                    by_cases e : i' = i
                    · subst e; exact HQ.out
                    · exact hno3.out i' (by omega) h2⟩, by simp only [intOf]; omega⟩
      · have hs : (scr r == 0) = false := by simpa using ha
        have hz : mate r = 0 := Classical.byContradiction fun h => ha (mate_scr h)
        have HN : Hid (sStep ls st r = (scr r, st)) := sStep_scr ha
        have hz1 : (mate r == 0) = true := by simpa using hz
        have hno : ¬ r < mate r := by
          rw [hz]; intro h; apply ha; unfold scr; (repeat' split) <;> omega
        clear ha hz1
        go_wp2_with (first
            | (go_at_call 14; refine (specScr _ _).mono ?_; rintro e w' ⟨rfl, rfl⟩)
            | (go_at_call 58; refine hmate.mono ?_; rintro e w2 ⟨rfl, b2⟩; have B2 := hbel.trans (b2.mono hbel.size); have hcell2 := HC.out _ B2))
        go_loopw [4, 5, 7, 9] (fun o s t i w' => o = .slice ao m co ∧ s = .int .i64 (scr r) ∧ t = .int .i64 (scr r) ∧ i = .int .i64 ((m : Int) - 1) ∧ w' = w2) (fun _ _ _ _ _ => 0)
        case atStart => exact ⟨rfl, rfl, rfl, by go_num, rfl⟩
        case round =>
          obtain ⟨rfl, rfl, rfl, rfl, rfl⟩ := hrel
          by_cases hm0 : m = 0
          · subst hm0
            go_wp2_with (at_builtin; refine own_append_at (.tmp 84) (.tmp 86) (hq.below b2) (by omega) B2.size rfl rfl rfl rfl ?_; intro v5 w5 q5 g5 at5)
            all_goals exact ⟨⟨k + 1, 0, y, by omega, by go_num, by rw [HS.out, HN.out], by omega, by rw [HS.out, HN.out]; exact hst, by rw [HS.out, HN.out]; exact hop, by rw [HS.out, HN.out]; exact hmt, by rw [HO.out (scr r) (by rw [HN.out])]; exact q5, (ho.below b2).apart g5 hap.out, hap.out.nextP (ho.below b2) at5, grown_below B2 g5 (hq.below b2) (Nat.le_refl _) B2.size⟩, by simp only [intOf]; omega⟩
          · have hmi : (0 : Int) ≤ (m : Int) - 1 := by omega
            go_wp2_with (at_builtin; refine own_append_at (.tmp 84) (.tmp 86) (hq.below b2) (by omega) B2.size rfl rfl rfl rfl ?_; intro v5 w5 q5 g5 at5)
            all_goals exact ⟨⟨k + 1, m, y, by omega, by go_num, by rw [HS.out, HN.out], by omega, by rw [HS.out, HN.out]; exact hst, by rw [HS.out, HN.out]; exact hop, by rw [HS.out, HN.out]; exact hmt, by rw [HO.out (scr r) (by rw [HN.out])]; exact q5, (ho.below b2).apart g5 hap.out, hap.out.nextP (ho.below b2) at5, grown_below B2 g5 (hq.below b2) (Nat.le_refl _) B2.size⟩, by simp only [intOf]; omega⟩
    · have e : k = n := by omega
      subst e
      go_wp2
      go_ret
      exact ⟨⟨_, rfl, by rw [HF.out]; exact hq⟩, hbel⟩
end Go.Proofs.Yteefeciiaekdlaa
