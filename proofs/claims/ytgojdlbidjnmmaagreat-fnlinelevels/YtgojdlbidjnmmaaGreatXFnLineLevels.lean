import Derived.Laws.BitsAllLaws
import Derived.Test.YtgojdlbidjnmmaaGreatPk13
namespace Go.Proofs.YtgojdlbidjnmmaaGreat
set_option linter.unusedSimpArgs false
set_option linter.unusedVariables false
theorem lineLR_no {l : List Int} {mt : Nat → Nat} {base f t : Int} (h : ¬ (okT l base = true ∧ 0 ≤ f ∧ f ≤ t ∧ t ≤ l.length)) : lineLR l mt base f t = [] := if_neg h
theorem lineLR_yes {l : List Int} {mt : Nat → Nat} {base f t : Int} (h : okT l base = true ∧ 0 ≤ f ∧ f ≤ t ∧ t ≤ l.length) : lineLR l mt base f t = lineLv l mt base f.toNat t.toNat := if_pos h
theorem drop_take_fn {l : List Int} {f m j : Nat} (h : j < m) (hl : f + m ≤ l.length) : fn ((l.drop f).take m) j = fn l (f + j) := by
  simp [fn, h, show f + j < l.length by omega, show j < l.length - f by omega]

theorem lineLR_le (l : List Int) (mt : Nat → Nat) (base f t : Int) : (lineLR l mt base f t).length ≤ l.length := by
  unfold lineLR; split
  · rename_i h
    unfold lineLv; rw [llF_len]; omega
  · simp
end Go.Proofs.YtgojdlbidjnmmaaGreat
namespace Go.Proofs.YtgojdlbidjnmmaaGreat
open Go.ChangeShapes Go.WideShapes Go.ChangeAt Go.RowKit Go.Deep
set_option linter.unusedSimpArgs false
set_option linter.unusedVariables false

set_option maxHeartbeats 2000000 in
theorem implEnds (r : Int) (w : World) (q : Bool) (hq : Hid (endB r = q)) : Calls Tryz.prog 47 #[.int .i64 r] w fun e w' => e = .returned (.bool q) ∧ Below w.heap.size w w' := by
  by_cases h : r = 10
  · subst h
    have HQ : Hid (true = q) := by unfold Hid; rw [← hq.out]; simp [endB]
    clear hq
    go_enter Tryz.func47, Tryz.ntmps47
    go_wp2_with fail
    go_ret
    exact ⟨retBool HQ.out, Below.refl _ _⟩
  · have hb : (r == 10) = false := by simpa using h
    obtain ⟨c, hc⟩ : ∃ c, bidi r = c := ⟨_, rfl⟩
    have HC : Hid _ := hc
    by_cases h2 : c = 11
    · subst h2
      have HQ : Hid (true = q) := by unfold Hid; rw [← hq.out]; simp [endB, hc]
      clear hq hc
      go_enter Tryz.func47, Tryz.ntmps47
      go_wp2_with (go_at_call 87; refine (implBidi _ _).mono ?_; rintro e w1 ⟨rfl, b1⟩; rw [HC.out])
      go_ret
      exact ⟨retBool HQ.out, b1⟩
    · have HQ : Hid (false = q) := by unfold Hid; rw [← hq.out]; simp [endB, hc, h, h2]
      have hb2 : (c == 11) = false := by simpa using h2
      clear hq hc
      go_enter Tryz.func47, Tryz.ntmps47
      go_wp2_with (go_at_call 87; refine (implBidi _ _).mono ?_; rintro e w1 ⟨rfl, b1⟩; rw [HC.out])
      go_ret
      exact ⟨retBool HQ.out, b1⟩
set_option maxHeartbeats 2000000 in
theorem implGoes (r : Int) (w : World) (q : Bool) (hq : Hid (goesB r = q)) : Calls Tryz.prog 48 #[.int .i64 r] w fun e w' => e = .returned (.bool q) ∧ Below w.heap.size w w' := by
  by_cases h : r = 32
  · subst h
    have HQ : Hid (true = q) := by unfold Hid; rw [← hq.out]; simp [goesB]
    clear hq
    go_enter Tryz.func48, Tryz.ntmps48
    go_wp2_with fail
    go_ret
    exact ⟨retBool HQ.out, Below.refl _ _⟩
  · have hb : (r == 32) = false := by simpa using h
    obtain ⟨c, hc⟩ : ∃ c, bidi r = c := ⟨_, rfl⟩
    have HC : Hid _ := hc
    by_cases h2 : 19 ≤ c
    · have HQ : Hid (true = q) := by unfold Hid; rw [← hq.out]; simp [goesB, hc, h2]
      clear hq hc
      go_enter Tryz.func48, Tryz.ntmps48
      go_wp2_with (go_at_call 87; refine (implBidi _ _).mono ?_; rintro e w1 ⟨rfl, b1⟩; rw [HC.out])
      go_ret
      exact ⟨retBool HQ.out, b1⟩
    · have HQ : Hid (false = q) := by unfold Hid; rw [← hq.out]; simp [goesB, hc, h, h2]
      clear hq hc
      go_enter Tryz.func48, Tryz.ntmps48
      go_wp2_with (go_at_call 87; refine (implBidi _ _).mono ?_; rintro e w1 ⟨rfl, b1⟩; rw [HC.out])
      go_ret
      exact ⟨retBool (by rw [← HQ.out]; simp; omega), b1⟩
set_option maxHeartbeats 2000000 in
theorem implThere (a : Option Addr) (n cap : Nat) (f t : Int) (w : World) (q : Bool) (hn : n ≤ 1048576) (hq : Hid (decide (0 ≤ f ∧ f ≤ t ∧ t ≤ n) = q)) : Calls Tryz.prog 46 #[.slice a n cap, .int .i64 f, .int .i64 t] w fun e w' => e = .returned (.bool q) ∧ w' = w := by
  by_cases h1 : 0 ≤ f
  · by_cases h2 : f ≤ t
    · by_cases h3 : t ≤ (n : Int)
      · have HQ : Hid (true = q) := by unfold Hid; rw [← hq.out]; simp [h1, h2, h3]
        clear hq
        go_enter Tryz.func46, Tryz.ntmps46
        go_wp2_with fail
        go_ret
        exact ⟨retBool HQ.out, rfl⟩
      · have HQ : Hid (false = q) := by unfold Hid; rw [← hq.out]; simp [h3]
        clear hq
        go_enter Tryz.func46, Tryz.ntmps46
        go_wp2_with fail
        go_ret
        exact ⟨retBool HQ.out, rfl⟩
    · have HQ : Hid (false = q) := by unfold Hid; rw [← hq.out]; simp [h2]
      clear hq
      go_enter Tryz.func46, Tryz.ntmps46
      go_wp2_with fail
      go_ret
      exact ⟨retBool HQ.out, rfl⟩
  · have HQ : Hid (false = q) := by unfold Hid; rw [← hq.out]; simp [h1]
    clear hq
    go_enter Tryz.func46, Tryz.ntmps46
    go_wp2_with fail
    go_ret
    exact ⟨retBool HQ.out, rfl⟩
set_option maxRecDepth 10000 in
set_option maxHeartbeats 8000000 in
theorem implLine (v : Value) (l : List Int) (mt : Nat → Nat) (base f t : Int) (w : World) (a : Option Addr) (cap : Nat) (hva : v = .slice a l.length cap) (hv : Arg w v l) (hl : l.length ≤ 1048576) (hmt : Hid (MateFn (cl l) l.length mt)) :
    Calls Tryz.prog 18 #[v, .int .i64 base, .int .i64 f, .int .i64 t] w fun e w' => (∃ v', e = .returned v' ∧ OwnI w' w.heap.size v' (lineLR l mt base f t)) ∧ Below w.heap.size w w' := by
  subst hva
  have HTH : Hid (∀ V q, decide (0 ≤ f ∧ f ≤ t ∧ t ≤ (l.length : Int)) = q → Calls Tryz.prog 46 #[.slice a l.length cap, .int .i64 f, .int .i64 t] V fun e w' => e = .returned (.bool q) ∧ w' = V) := fun V q h => implThere a l.length cap f t V q hl h
  by_cases hft : 0 ≤ f ∧ f ≤ t ∧ t ≤ (l.length : Int)
  · have HD : Hid (decide (0 ≤ f ∧ f ≤ t ∧ t ≤ (l.length : Int)) = true) := decide_eq_true hft
    have hLV := implLevels (.slice a l.length cap) l mt base w a cap rfl hv hl hmt
    have HLV : Hid _ := hLV
    obtain ⟨n, hn⟩ : ∃ n, l.length = n := ⟨_, rfl⟩
    have HN : Hid _ := hn
    obtain ⟨q, hq⟩ : ∃ q, okT l base = q := ⟨_, rfl⟩
    have HQ : Hid (okT l base = q) := hq
    by_cases hz : levsR l mt base = []
    · -- nothing is read
      have hR : lineLR l mt base f t = [] := by
        by_cases e : okT l base = true
        · have h2 : levsR l mt base = levsF l mt base := if_pos e
          have h3 := levsF_len l mt base
          rw [← h2, hz] at h3
          rw [lineLR_yes ⟨e, hft⟩]
          apply List.eq_nil_of_length_eq_zero
          unfold lineLv; rw [llF_len]
          have h4 := hft.2.2
          rw [← h3] at h4
          simp only [List.length_nil] at h4
          omega
        · exact lineLR_no (fun h => e h.1)
      have HR : Hid _ := hR
      have HZ : Hid _ := hz
      rw [hn] at HTH HD HLV ⊢
      clear hLV hR hz hv hmt hq hft hn
      go_enter Tryz.func18, Tryz.ntmps18
      go_wp2_with (go_at_call 46; refine (HTH.out _ true HD.out).mono ?_; rintro e w1 ⟨rfl, hw1⟩; rw [hw1]; clear hw1 w1)
      refine Calls.mono HLV.out ?_
      rintro e w2 ⟨⟨v2, rfl, o2⟩, b2⟩
      rw [HZ.out] at o2
      rcases o2.forms with ⟨rfl, _⟩ | ⟨g, c, rfl, _⟩
      · go_wp2_with fail
        go_ret
        exact ⟨⟨_, rfl, by rw [HR.out]; exact OwnI.nil _ _⟩, b2⟩
      · go_wp2_with fail
        go_ret
        exact ⟨⟨_, rfl, by rw [HR.out]; exact OwnI.nil _ _⟩, b2⟩
    · have e : okT l base = true := Decidable.byContradiction fun e => hz (by unfold levsR; rw [if_neg e])
      have hrl : levsR l mt base = levsF l mt base := if_pos e
      have hA3 := levsF_len l mt base
      have hok80 := (okT_out e).2.2
      have hlx := levTxt e hmt.out
      have hR := lineLR_yes (mt := mt) ⟨e, hft⟩
      obtain ⟨f0, hf0⟩ : ∃ f0, f.toNat = f0 := ⟨_, rfl⟩
      obtain ⟨m, hm⟩ : ∃ m, t.toNat - f.toNat = m := ⟨_, rfl⟩
      have hfe : f = (f0 : Int) := by omega
      have hte : t = ((f0 + m : Nat) : Int) := by omega
      have hfm : f0 + m ≤ n := by omega
      rw [hR]
      unfold lineLv
      rw [hm, hf0]
      rw [hrl] at HLV hz
      rw [hn] at hA3 hok80
      subst hfe hte
      obtain ⟨A, hA⟩ : ∃ A, levsF l mt base = A := ⟨_, rfl⟩
      rw [hA] at HLV hz hA3 ⊢
      have hnl : 0 < n := by rw [← hA3]; exact List.length_pos_iff.2 hz
      obtain ⟨bl, ol, e1, hbl, hat⟩ : ∃ bl ol, a = some ⟨bl, ol, none⟩ ∧ bl < w.heap.size ∧ At w bl ol l := by
        rcases hv with ⟨a0, cap0, e1, e2⟩ | ⟨b, off, cap', e1, hb, hlc, hcm, hat⟩
        · rw [e2] at hn; simp at hn; omega
        · simp only [Value.slice.injEq] at e1
          exact ⟨b, off, e1.1, hb, hat⟩
      subst e1
      have HAT : Hid (At w bl ol l) := hat
      have HA3 : Hid (A.length = n) := hA3
      obtain ⟨x, hx⟩ : ∃ x : Nat → Int, (fun j => fn l (f0 + j)) = x := ⟨_, rfl⟩
      obtain ⟨lev, hlev⟩ : ∃ lev : Nat → Int, (fun j => fn A (f0 + j)) = lev := ⟨_, rfl⟩
      have HX : Hid (∀ V, Below w.heap.size w V → ∀ j, j < m → V.cell? ⟨bl, ol + (f0 + j), none⟩ = some (.int .i64 (x j))) := fun V hV j hj => by
        rw [← hx]; exact (HAT.out.below hV hbl) (f0 + j) (by rw [HN.out]; omega)
      have HLEV : Hid (∀ j, lev j = fn A (f0 + j)) := fun j => by rw [← hlev]
      rw [hx, hlev]
      rw [hn] at HTH HD HLV ⊢
      clear hLV hz hv hmt hq hR hrl hA hx hlev hf0 hm hA3 hat hlx e hn hft
      by_cases hm0 : m = 0
      · subst hm0
        have hE : llF x lev 0 base = [] := List.eq_nil_of_length_eq_zero (llF_len _ _ _ _)
        rw [hE]
        clear hE
        go_enter Tryz.func18, Tryz.ntmps18
        go_wp2_with (go_at_call 46; refine (HTH.out _ true HD.out).mono ?_; rintro e w1 ⟨rfl, hw1⟩; rw [hw1]; clear hw1 w1)
        refine Calls.mono HLV.out ?_
        rintro e w2 ⟨⟨v2, rfl, o2⟩, b2⟩
        obtain ⟨g2, c2, e2, hc2⟩ := OwnI.form1 o2 (fun e => by have := HA3.out; rw [e] at this; simp at this; omega)
        rw [HA3.out] at e2 hc2
        subst e2
        have HB2 : Hid (Below w.heap.size w w2) := b2
        have hnb : ((n : Int) == 0) = false := by simp; omega
        have hsz2 := b2.size
        clear o2 b2
        go_wp2_with fail
        all_goals
          refine (clone_any _ [] _ (.inl ⟨_, _, rfl, rfl⟩) (by simp)).mono ?_
          rintro e w3 ⟨⟨v3, rfl, o3⟩, b3⟩
          have HB3 : Hid (Below w.heap.size w w3) := bstep HB2.out b3
          have O3 : Hid (OwnI w3 w.heap.size v3 []) := o3.mono hsz2
          rcases o3.forms with ⟨rfl, _⟩ | ⟨g3, c3, rfl, _⟩
          all_goals
            clear o3 b3
            go_wp2_with fail
            go_rounds 1
            go_ret
            exact ⟨⟨_, rfl, O3.out⟩, HB3.out⟩
      · have hmp : 0 < m := by omega
        have hLLl : ((A.drop f0).take m).length = m := by simp; have := HA3.out; omega
        have hLLf : ∀ j, j < m → lev j = fn ((A.drop f0).take m) j := fun j hj => by rw [HLEV.out, drop_take_fn hj (by have := HA3.out; omega)]
        have HP0 : Hid (llP x lev m base m = (A.drop f0).take m) := llP_start hLLl hLLf
        have HLL : Hid (((A.drop f0).take m).length = m ∧ ∀ j, j < m → lev j = fn ((A.drop f0).take m) j) := ⟨hLLl, hLLf⟩
        clear hLLl hLLf
        go_enter Tryz.func18, Tryz.ntmps18
        go_wp2_with (go_at_call 46; refine (HTH.out _ true HD.out).mono ?_; rintro e w1 ⟨rfl, hw1⟩; rw [hw1]; clear hw1 w1)
        refine Calls.mono HLV.out ?_
        rintro e w2 ⟨⟨v2, rfl, o2⟩, b2⟩
        obtain ⟨g2, c2, e2, hc2⟩ := OwnI.form1 o2 (fun e => by have := HA3.out; rw [e] at this; simp at this; omega)
        rw [HA3.out] at e2 hc2
        subst e2
        have O2 : Hid (OwnI w2 w.heap.size (.slice (some ⟨g2, 0, none⟩) n c2) A) := o2
        have HB2 : Hid (Below w.heap.size w w2) := b2
        have hg2 := (o2.lt g2 rfl).2
        have hnb : ((n : Int) == 0) = false := by simp; omega
        have hfc : f0 + m ≤ c2 := by omega
        have hcf : ¬ c2 = f0 := by omega
        have hsz2 := b2.size
        clear o2 b2
        go_wp2_with fail
        refine (clone_row g2 f0 m (c2 - f0) ((A.drop f0).take m) w2 HLL.out.1 (by omega) (fun j hj => ?_) hg2).mono ?_
        · have hjm : j < m := by rw [HLL.out.1] at hj; exact hj
          rw [← HLL.out.2 j hjm, HLEV.out]
          have := O2.out.cellN (f0 + j) (by have := HA3.out; omega)
          exact this
        rintro e w3 ⟨⟨v3, rfl, o3⟩, b3⟩
        obtain ⟨g3, c3, e3, hc3⟩ := OwnI.form1 o3 (fun e => by have := HLL.out.1; rw [e] at this; simp at this; omega)
        rw [HLL.out.1] at e3 hc3
        subst e3
        have O3 : Hid (OwnI w3 w2.heap.size (.slice (some ⟨g3, 0, none⟩) m c3) (llP x lev m base m)) := by unfold Hid; rw [HP0.out]; exact o3
        have HB3 : Hid (Below w.heap.size w w3) := bstep HB2.out b3
        clear o3 b3
        go_wp2_with fail
        go_loopw [11, 12] (fun e11 e12 wr => ∃ (k : Nat) (b0 : Bool), e11 = .bool b0 ∧ Hid (emT x lev m (m - k) = b0) ∧ e12 = .int .i64 ((k : Int) - 1) ∧ k ≤ m ∧ Hid (OwnI wr w2.heap.size (.slice (some ⟨g3, 0, none⟩) m c3) (llP x lev m base k)) ∧ Hid (Below w.heap.size w wr)) (fun _ e12 _ => (intOf e12 + 1).toNat)
        case atStart => exact ⟨m, true, rfl, by unfold Hid; rw [Nat.sub_self]; rfl, by first | rfl | (congr 1), Nat.le_refl _, O3.out, HB3.out⟩
        case round =>
          obtain ⟨k, b0, rfl, hem, rfl, hk, hO, hB⟩ := hrel
          rename World => wr
          cases k with
          | zero =>
            have e : ((0 : Nat) : Int) - 1 = -1 := rfl
            rw [e]
            clear e
            go_wp2_with fail
            go_ret
            exact ⟨⟨_, rfl, by rw [← llP_zero]; exact hO.out.mono hsz2⟩, hB.out⟩
          | succ p =>
            have e : ((p + 1 : Nat) : Int) - 1 = (p : Int) := by omega
            rw [e]
            clear e
            have hpm : p < m := by omega
            have hpi : (p : Int) < (m : Int) := by omega
            have c1 := hO.out.cellN p (by omega)
            have f1 : wr.frozen? ⟨g3, p, none⟩ = false := hO.out.frozenN p
            rw [fn_llP hpm, if_neg (by omega)] at c1
            have hst := emT_step (x := x) (lev := lev) hpm
            rw [hem.out] at hst
            obtain ⟨lv, hlv⟩ : ∃ lv, lev p = lv := ⟨_, rfl⟩
            have hla : llA x lev m base p = if 0 ≤ lev p ∧ emT x lev m (m - p) = true then base else lev p := rfl
            rw [hlv] at c1 hst hla
            by_cases hneg : lv < 0
            · have HNX : Hid (emT x lev m (m - p) = b0) := by unfold Hid; rw [hst, if_pos hneg]
              have HPK : Hid (llP x lev m base p = llP x lev m base (p + 1)) := llP_keep hpm (by rw [hla, if_neg (by omega), hlv])
              clear hst hla hem
              go_wp2_with fail
              go_roundw
              case rel => exact ⟨p, b0, rfl, HNX.out, by first | rfl | go_num, by omega, by rw [HPK.out]; exact hO.out, hB.out⟩
              case measure => simp only [intOf]; omega
            · rw [if_neg hneg] at hst
              have cx := HX.out wr hB.out p hpm
              obtain ⟨r, hr⟩ : ∃ r, x p = r := ⟨_, rfl⟩
              rw [hr] at cx hst
              obtain ⟨E, hE⟩ : ∃ E, endB r = E := ⟨_, rfl⟩
              obtain ⟨G, hG⟩ : ∃ G, goesB r = G := ⟨_, rfl⟩
              rw [hE, hG] at hst
              have HE : Hid _ := hE
              have HGO : Hid _ := hG
              have hfi : ((f0 : Int) + (p : Int)) < (n : Int) := by omega
              have HS1 : Hid (emT x lev m (m - p) = true → (llP x lev m base (p + 1)).set p base = llP x lev m base p) := fun h => llP_set hpm (by rw [hla, if_pos ⟨by omega, h⟩])
              have HS2 : Hid (emT x lev m (m - p) = false → llP x lev m base p = llP x lev m base (p + 1)) := fun h => llP_keep hpm (by rw [hla, if_neg (by rw [h]; simp), hlv])
              have HST : Hid (emT x lev m (m - p) = (E || b0 && G)) := hst
              clear hst hla hem hlv hE hG hr
              cases E
              · cases b0
                · have HNX : Hid (emT x lev m (m - p) = false) := by unfold Hid; rw [HST.out]; rfl
                  go_wp2_with (go_at_call 47; refine (implEnds _ _ false HE.out).mono ?_; rintro e w4 ⟨rfl, b4⟩; have HB4 : Hid (Below w.heap.size w w4) := bstep hB.out b4; have HO4 : Hid (OwnI w4 w2.heap.size (.slice (some ⟨g3, 0, none⟩) m c3) (llP x lev m base (p + 1))) := hO.out.below b4)
                  go_roundw
                  case rel => exact ⟨p, false, rfl, HNX.out, by first | rfl | go_num, by omega, by rw [HS2.out HNX.out]; exact HO4.out, HB4.out⟩
                  case measure => simp only [intOf]; omega
                · cases G
                  · have HNX : Hid (emT x lev m (m - p) = false) := by unfold Hid; rw [HST.out]; rfl
                    go_wp2_with (first | (go_at_call 47; refine (implEnds _ _ false HE.out).mono ?_; rintro e w4 ⟨rfl, b4⟩; have HB4 : Hid (Below w.heap.size w w4) := bstep hB.out b4; have HO4 : Hid (OwnI w4 w2.heap.size (.slice (some ⟨g3, 0, none⟩) m c3) (llP x lev m base (p + 1))) := hO.out.below b4) | (go_at_call 48; refine (implGoes _ _ false HGO.out).mono ?_; rintro e w5 ⟨rfl, b5⟩; have HB5 : Hid (Below w.heap.size w w5) := bstep HB4.out b5; have HO5 : Hid (OwnI w5 w2.heap.size (.slice (some ⟨g3, 0, none⟩) m c3) (llP x lev m base (p + 1))) := HO4.out.below b5))
                    go_roundw
                    case rel => exact ⟨p, false, rfl, HNX.out, by first | rfl | go_num, by omega, by rw [HS2.out HNX.out]; exact HO5.out, HB5.out⟩
                    case measure => simp only [intOf]; omega
                  · have HNX : Hid (emT x lev m (m - p) = true) := by unfold Hid; rw [HST.out]; rfl
                    go_wp2_with (first | (go_at_call 47; refine (implEnds _ _ false HE.out).mono ?_; rintro e w4 ⟨rfl, b4⟩; have HB4 : Hid (Below w.heap.size w w4) := bstep hB.out b4; have HO4 : Hid (OwnI w4 w2.heap.size (.slice (some ⟨g3, 0, none⟩) m c3) (llP x lev m base (p + 1))) := hO.out.below b4) | (go_at_call 48; refine (implGoes _ _ true HGO.out).mono ?_; rintro e w5 ⟨rfl, b5⟩; have HB5 : Hid (Below w.heap.size w w5) := bstep HB4.out b5; have HO5 : Hid (OwnI w5 w2.heap.size (.slice (some ⟨g3, 0, none⟩) m c3) (llP x lev m base (p + 1))) := HO4.out.below b5; have c5 := HO5.out.cellN p (by omega); have f5 : w5.frozen? ⟨g3, p, none⟩ = false := HO5.out.frozenN p))
                    go_roundw
                    case rel => exact ⟨p, true, rfl, HNX.out, by first | rfl | go_num, by omega, by rw [← HS1.out HNX.out]; exact HO5.out.storedN _ _, HB5.out.setCell (Nat.le_trans hsz2 (HO5.out.lt g3 rfl).1) _⟩
                    case measure => simp only [intOf]; omega
              · have HNX : Hid (emT x lev m (m - p) = true) := by unfold Hid; rw [HST.out]; rfl
                go_wp2_with (go_at_call 47; refine (implEnds _ _ true HE.out).mono ?_; rintro e w4 ⟨rfl, b4⟩; have HB4 : Hid (Below w.heap.size w w4) := bstep hB.out b4; have HO4 : Hid (OwnI w4 w2.heap.size (.slice (some ⟨g3, 0, none⟩) m c3) (llP x lev m base (p + 1))) := hO.out.below b4; have c4 := HO4.out.cellN p (by omega); have f4 : w4.frozen? ⟨g3, p, none⟩ = false := HO4.out.frozenN p)
                go_roundw
                case rel => exact ⟨p, true, rfl, HNX.out, by first | rfl | go_num, by omega, by rw [← HS1.out HNX.out]; exact HO4.out.storedN _ _, HB4.out.setCell (Nat.le_trans hsz2 (HO4.out.lt g3 rfl).1) _⟩
                case measure => simp only [intOf]; omega
  · have HD : Hid (decide (0 ≤ f ∧ f ≤ t ∧ t ≤ (l.length : Int)) = false) := decide_eq_false hft
    have hR := lineLR_no (mt := mt) (l := l) (base := base) (f := f) (t := t) (fun h => hft h.2)
    have HR : Hid _ := hR
    clear hR hft
    go_enter Tryz.func18, Tryz.ntmps18
    go_wp2_with (go_at_call 46; refine (HTH.out _ false HD.out).mono ?_; rintro e w1 ⟨rfl, hw1⟩; rw [hw1]; clear hw1 w1)
    go_ret
    exact ⟨⟨_, rfl, by rw [HR.out]; exact OwnI.nil _ _⟩, Below.refl _ _⟩
end Go.Proofs.YtgojdlbidjnmmaaGreat
namespace Go.Proofs.YtgojdlbidjnmmaaGreat
open Go.ChangeShapes Go.WideShapes Go.ChangeAt Go.RowKit Go.Deep
set_option linter.unusedSimpArgs false
set_option linter.unusedVariables false

def emptyB (r : Int) : Bool := decide (bidi r = 12 ∨ 19 ≤ bidi r ∨ bidi r = 10 ∨ (14 ≤ bidi r ∧ bidi r ≤ 18))
theorem bidi_nl : bidi 10 = 13 := by decide
theorem empty_tells {r : Int} (h : tellsB (bidi r) = true) : emptyB r = true ∧ endB r = false := by
  unfold tellsB at h
  have h := of_decide_eq_true h
  unfold emptyB endB
  constructor
  · exact decide_eq_true (by omega)
  · refine decide_eq_false (fun e => ?_)
    rcases e with e | e
    · subst e; rw [bidi_nl] at h; omega
    · omega
theorem empty_not {r : Int} (h : tellsB (bidi r) = false) : emptyB r = goesB r := by
  unfold tellsB at h
  have h := of_decide_eq_false h
  have h12 := bidi_12 r
  unfold emptyB goesB
  by_cases e : r = 32 ∨ 19 ≤ bidi r
  · rw [decide_eq_true e]
    refine decide_eq_true ?_
    rcases e with e | e
    · exact .inl (h12.2 e)
    · exact .inr (.inl e)
  · rw [decide_eq_false e]
    refine decide_eq_false (fun e2 => ?_)
    rcases e2 with e2 | e2
    · exact e (.inl (h12.1 e2))
    · omega
set_option maxHeartbeats 2000000 in
theorem specEmpty (r : Int) (w : World) (q : Bool) (hq : Hid (emptyB r = q)) : Calls Tryz.prog 88 #[.int .i64 r] w fun e w' => e = .returned (.bool q) ∧ Below w.heap.size w w' := by
  obtain ⟨c, hc⟩ : ∃ c, bidi r = c := ⟨_, rfl⟩
  have HC : Hid _ := hc
  have HQ0 : Hid (decide (c = 12 ∨ 19 ≤ c ∨ c = 10 ∨ (14 ≤ c ∧ c ≤ 18)) = q) := by unfold Hid; rw [← hc]; exact hq.out
  clear hq hc
  by_cases h1 : c = 12
  · have HQ : Hid (true = q) := by unfold Hid; rw [← HQ0.out]; simp [h1]
    subst h1
    go_enter Tryz.func88, Tryz.ntmps88
    go_wp2_with (go_at_call 10; refine (specBidi _ _).mono ?_; rintro e w1 ⟨rfl, b1⟩; rw [HC.out])
    go_ret
    exact ⟨retBool HQ.out, b1⟩
  · have hb1 : (c == 12) = false := by simpa using h1
    by_cases h2 : 19 ≤ c
    · have HQ : Hid (true = q) := by unfold Hid; rw [← HQ0.out]; simp [h2]
      go_enter Tryz.func88, Tryz.ntmps88
      go_wp2_with (go_at_call 10; refine (specBidi _ _).mono ?_; rintro e w1 ⟨rfl, b1⟩; rw [HC.out])
      go_ret
      exact ⟨retBool HQ.out, b1⟩
    · by_cases h3 : c = 10
      · have HQ : Hid (true = q) := by unfold Hid; rw [← HQ0.out]; simp [h3]
        subst h3
        go_enter Tryz.func88, Tryz.ntmps88
        go_wp2_with (go_at_call 10; refine (specBidi _ _).mono ?_; rintro e w1 ⟨rfl, b1⟩; rw [HC.out])
        go_ret
        exact ⟨retBool HQ.out, b1⟩
      · have hb3 : (c == 10) = false := by simpa using h3
        have HQ : Hid (inB c 14 18 = q) := by unfold Hid; rw [← HQ0.out]; unfold inB; simp [h1, h2, h3]
        go_enter Tryz.func88, Tryz.ntmps88
        go_wp2_with (first | (go_at_call 10; refine (specBidi _ _).mono ?_; rintro e w1 ⟨rfl, b1⟩; rw [HC.out]) | (go_at_call 29; refine (specIn _ _ _ _).mono ?_; rintro e w2 ⟨rfl, hw2⟩; rw [HQ.out, hw2]; clear hw2 w2))
        go_ret
        exact ⟨retBool (by rw [decide_eq_false (by omega : ¬ (19 : Int) ≤ c)]; rfl), b1⟩

set_option maxRecDepth 10000 in
set_option maxHeartbeats 4000000 in
theorem specLine0 (bl : Option Addr) (gl n c1 c2 f0 : Nat) (base : Int) (w : World) (h1 : f0 ≤ n) (h2 : n ≤ c2) (h3 : n ≤ 80) :
    Calls Tryz.prog 49 #[.slice bl n c1, .slice (some ⟨gl, 0, none⟩) n c2, .int .i64 base, .int .i64 (f0 : Int), .int .i64 (f0 : Int)] w fun e w' => (∃ v', e = .returned v' ∧ OwnI w' w.heap.size v' []) ∧ Below w.heap.size w w' := by
  have hbe : Below w.heap.size w (w.alloc (.cells #[] 3)) := (Below.refl _ _).alloc (Nat.le_refl _) _
  have hat2 : ∀ off, At (w.alloc (.cells #[] 3)) gl off [] := fun off j hj => by simp at hj
  have ho := own_empty w w.heap.size 3 (Nat.le_refl _) rfl
  have hf1 : f0 ≤ c2 := by omega
  by_cases hcf : c2 = f0
  · subst hcf
    go_enter Tryz.func49, Tryz.ntmps49
    go_wp2_with (at_builtin; refine own_appendAll (c := 0) (.tmp 15) (.tmp 19) ho (m := []) rfl (by simp) (by simp) (hat2 0) rfl rfl rfl rfl ?_; intro v4 w4 o4 gr4; have O4 : Hid (OwnI w4 w.heap.size v4 []) := o4; have HB4 : Hid (Below w.heap.size w w4) := hbe.grown gr4 (by simp) (fun k hk => by simp [Value.ownBlock] at hk; omega); clear o4 gr4)
    go_rounds 1
    go_ret
    exact ⟨⟨_, rfl, O4.out⟩, HB4.out⟩
  · go_enter Tryz.func49, Tryz.ntmps49
    go_wp2_with (at_builtin; refine own_appendAll (c := c2 - f0) (.tmp 15) (.tmp 19) ho (m := []) rfl (by simp) (by simp) (hat2 f0) rfl rfl rfl rfl ?_; intro v4 w4 o4 gr4; have O4 : Hid (OwnI w4 w.heap.size v4 []) := o4; have HB4 : Hid (Below w.heap.size w w4) := hbe.grown gr4 (by simp) (fun k hk => by simp [Value.ownBlock] at hk; omega); clear o4 gr4)
    go_rounds 1
    go_ret
    exact ⟨⟨_, rfl, O4.out⟩, HB4.out⟩
set_option maxRecDepth 10000 in
set_option maxHeartbeats 4000000 in
theorem specLineN (bl : Option Addr) (c1 : Nat) (base : Int) (w : World) :
    Calls Tryz.prog 49 #[.slice bl 0 c1, .slice none 0 0, .int .i64 base, .int .i64 0, .int .i64 0] w fun e w' => (∃ v', e = .returned v' ∧ OwnI w' w.heap.size v' []) ∧ Below w.heap.size w w' := by
  have hbe : Below w.heap.size w (w.alloc (.cells #[] 3)) := (Below.refl _ _).alloc (Nat.le_refl _) _
  have ho := own_empty w w.heap.size 3 (Nat.le_refl _) rfl
  have HO : Hid _ := ho
  have HBE : Hid _ := hbe
  clear ho hbe
  go_enter Tryz.func49, Tryz.ntmps49
  go_wp2_with (at_builtin; refine own_appendOwn (.tmp 15) (.tmp 19) HO.out (OwnI.nil _ 0) (by simp) (by simp) rfl rfl rfl rfl ?_; intro v4 w4 o4 gr4; have O4 : Hid (OwnI w4 w.heap.size v4 []) := o4; have HB4 : Hid (Below w.heap.size w w4) := HBE.out.grown gr4 (by simp) (fun k hk => by simp [Value.ownBlock] at hk; omega); clear o4 gr4)
  go_rounds 1
  go_ret
  exact ⟨⟨_, rfl, O4.out⟩, HB4.out⟩

set_option maxRecDepth 10000 in
set_option maxHeartbeats 8000000 in
theorem specLine1 (bl ol cap gl c2 n f0 m : Nat) (l A : List Int) (base : Int) (x lev : Nat → Int) (w : World) (hln : l.length = n) (hA : A.length = n) (hfm : f0 + m ≤ n) (hmp : 0 < m) (h80 : n ≤ 80) (hbl : bl < w.heap.size) (hgl : gl < w.heap.size) (hat : At w bl ol l) (hatA : At w gl 0 A) (hc : n ≤ c2)
    (HXL : Hid (∀ j, j < m → x j = fn l (f0 + j) ∧ lev j = fn A (f0 + j))) (HT : Hid (∀ j, j < m → (lev j < 0 → tellsB (bidi (x j)) = true) ∧ (0 ≤ lev j → tellsB (bidi (x j)) = false))) :
    Calls Tryz.prog 49 #[.slice (some ⟨bl, ol, none⟩) n cap, .slice (some ⟨gl, 0, none⟩) n c2, .int .i64 base, .int .i64 (f0 : Int), .int .i64 ((f0 + m : Nat) : Int)] w fun e w' => (∃ v', e = .returned v' ∧ OwnI w' w.heap.size v' (llF x lev m base)) ∧ Below w.heap.size w w' := by
  have hLLl : ((A.drop f0).take m).length = m := by simp; omega
  have hLLf : ∀ j, j < m → lev j = fn ((A.drop f0).take m) j := fun j hj => by rw [(HXL.out j hj).2, drop_take_fn hj (by omega)]
  have HP0 : Hid (llP x lev m base m = (A.drop f0).take m) := llP_start hLLl hLLf
  have HLL : Hid (((A.drop f0).take m).length = m) := hLLl
  have HX : Hid (∀ V, Below w.heap.size w V → ∀ j, j < m → V.cell? ⟨bl, ol + (f0 + j), none⟩ = some (.int .i64 (x j))) := fun V hV j hj => by
    rw [(HXL.out j hj).1]; exact (hat.below hV hbl) (f0 + j) (by omega)
  have hbe : Below w.heap.size w (w.alloc (.cells #[] 3)) := (Below.refl _ _).alloc (Nat.le_refl _) _
  have hat2 : At (w.alloc (.cells #[] 3)) gl f0 ((A.drop f0).take m) := fun j hj => by
    rw [hLLl] at hj
    rw [← hLLf j hj, (HXL.out j hj).2]
    have := (hatA.below hbe hgl) (f0 + j) (by omega)
    rwa [Nat.zero_add] at this
  have ho := own_empty w w.heap.size 3 (Nat.le_refl _) rfl
  have HHC : Hid (f0 + m ≤ c2) := show f0 + m ≤ c2 by omega
  have hcf : ¬ c2 = f0 := by omega
  have hcf2 : f0 + m ≤ c2 := by omega
  clear hLLl hLLf hat hatA hA hln
  go_enter Tryz.func49, Tryz.ntmps49
  go_wp2_with (at_builtin; refine own_appendAll (.tmp 15) (.tmp 19) ho HLL.out (by simp; omega) (by simp) hat2 rfl rfl rfl (show Value.slice (some ⟨gl, f0, none⟩) (f0 + m - f0) (c2 - f0) = _ from by rw [Nat.add_sub_cancel_left]) ?_; intro v4 w4 o4 gr4; have tok : True := trivial)
  have b4 : Below w.heap.size w w4 := by
    refine hbe.grown gr4 (by simp) (fun k hk => ?_)
    simp [Value.ownBlock] at hk
    omega
  simp only [List.nil_append] at o4
  obtain ⟨g3, c3, e3, hc3⟩ := OwnI.form1 o4 (fun e => by have := HLL.out; rw [e] at this; simp at this; omega)
  rw [HLL.out] at e3 hc3
  subst e3
  have O3 : Hid (OwnI w4 w.heap.size (.slice (some ⟨g3, 0, none⟩) m c3) (llP x lev m base m)) := by unfold Hid; rw [HP0.out]; exact o4
  have HB3 : Hid (Below w.heap.size w w4) := b4
  clear o4 b4 gr4 ho hbe hat2 tok
  go_wp2_with fail
  go_loopw [12, 13] (fun e11 e12 wr => ∃ (k : Nat) (b0 : Bool), e11 = .bool b0 ∧ Hid (emT x lev m (m - k) = b0) ∧ e12 = .int .i64 ((f0 : Int) + (k : Int) - 1) ∧ k ≤ m ∧ Hid (OwnI wr w.heap.size (.slice (some ⟨g3, 0, none⟩) m c3) (llP x lev m base k)) ∧ Hid (Below w.heap.size w wr)) (fun _ e12 _ => (intOf e12 + 1 - f0).toNat)
  case atStart => exact ⟨m, true, rfl, by unfold Hid; rw [Nat.sub_self]; rfl, by first | rfl | (congr 1), Nat.le_refl _, O3.out, HB3.out⟩
  case round =>
    obtain ⟨k, b0, rfl, hem, rfl, hk, hO, hB⟩ := hrel
    rename World => wr
    cases k with
    | zero =>
      have e : (f0 : Int) + ((0 : Nat) : Int) - 1 = (f0 : Int) - 1 := by omega
      rw [e]
      clear e
      go_wp2_with fail
      go_ret
      exact ⟨⟨_, rfl, by rw [← llP_zero]; exact hO.out⟩, hB.out⟩
    | succ p =>
      have e : (f0 : Int) + ((p + 1 : Nat) : Int) - 1 = (f0 : Int) + (p : Int) := by omega
      rw [e]
      clear e
      have hpm : p < m := by omega
      have hpi : (p : Int) < (m : Int) := by omega
      have hwp : IntKind.i64.wrap (p : Int) = (p : Int) := by rw [IntKind.wrap_i64]; omega
      have c1 := hO.out.cellN p (by omega)
      have f1 : wr.frozen? ⟨g3, p, none⟩ = false := hO.out.frozenN p
      rw [fn_llP hpm, if_neg (by omega)] at c1
      have hst := emT_step (x := x) (lev := lev) hpm
      rw [hem.out] at hst
      obtain ⟨lv, hlv⟩ : ∃ lv, lev p = lv := ⟨_, rfl⟩
      have hla : llA x lev m base p = if 0 ≤ lev p ∧ emT x lev m (m - p) = true then base else lev p := rfl
      have hT := HT.out p hpm
      rw [hlv] at c1 hst hla hT
      have cx := HX.out wr hB.out p hpm
      obtain ⟨r, hr⟩ : ∃ r, x p = r := ⟨_, rfl⟩
      rw [hr] at cx hst hT
      have hfi : ((f0 : Int) + (p : Int)) < (n : Int) := by omega
      obtain ⟨c, hcc⟩ : ∃ c, bidi r = c := ⟨_, rfl⟩
      have HC : Hid _ := hcc
      obtain ⟨M, hM⟩ : ∃ M, emptyB r = M := ⟨_, rfl⟩
      have HM : Hid (emptyB r = M) := hM
      -- what the place becomes
      have HS1 : Hid (0 ≤ lv → emT x lev m (m - p) = true → (llP x lev m base (p + 1)).set p base = llP x lev m base p) := fun h0 h => llP_set hpm (by rw [hla, if_pos ⟨h0, h⟩])
      have HS2 : Hid (emT x lev m (m - p) = false ∨ lv < 0 → llP x lev m base p = llP x lev m base (p + 1)) := fun h => llP_keep hpm (by
        rw [hla, hlv]
        rcases h with h | h
        · rw [if_neg (by rw [h]; simp)]
        · rw [if_neg (by omega)])
      by_cases hE : endB r = true
      · have hl0 : 0 ≤ lv := by
          rcases Int.lt_or_le lv 0 with q | q
          · have := (empty_tells (hT.1 q)).2; rw [this] at hE; cases hE
          · exact q
        rw [if_neg (by omega), hE] at hst
        have HNX : Hid (emT x lev m (m - p) = true) := by unfold Hid; rw [hst]; rfl
        have hE2 : r = 10 ∨ bidi r = 11 := of_decide_eq_true hE
        rw [hcc] at hE2
        by_cases h11 : c = 11
        · subst h11
          clear hst hla hem hlv hT hM hcc hE hE2 hr
          go_wp2_with (go_at_call 10; refine (specBidi _ _).mono ?_; rintro e w5 ⟨rfl, b5⟩; rw [HC.out]; have HB5 : Hid (Below w.heap.size w w5) := bstep hB.out b5; have HO5 : Hid (OwnI w5 w.heap.size (.slice (some ⟨g3, 0, none⟩) m c3) (llP x lev m base (p + 1))) := hO.out.below b5; have c5 := HO5.out.cellN p (by omega); have f5 : w5.frozen? ⟨g3, p, none⟩ = false := HO5.out.frozenN p)
          go_roundw
          case rel => exact ⟨p, true, rfl, HNX.out, by first | rfl | go_num, by omega, by rw [← HS1.out hl0 HNX.out]; exact HO5.out.storedN _ _, HB5.out.setCell (HO5.out.lt g3 rfl).1 _⟩
          case measure => simp only [intOf]; omega
        · have h10 : r = 10 := by omega
          have hb11 : (c == 11) = false := by simpa using h11
          subst h10
          clear hst hla hem hlv hT hM hcc hE hE2 hr
          go_wp2_with (go_at_call 10; refine (specBidi _ _).mono ?_; rintro e w5 ⟨rfl, b5⟩; rw [HC.out]; have HB5 : Hid (Below w.heap.size w w5) := bstep hB.out b5; have HO5 : Hid (OwnI w5 w.heap.size (.slice (some ⟨g3, 0, none⟩) m c3) (llP x lev m base (p + 1))) := hO.out.below b5; have c5 := HO5.out.cellN p (by omega); have f5 : w5.frozen? ⟨g3, p, none⟩ = false := HO5.out.frozenN p)
          go_roundw
          case rel => exact ⟨p, true, rfl, HNX.out, by first | rfl | go_num, by omega, by rw [← HS1.out hl0 HNX.out]; exact HO5.out.storedN _ _, HB5.out.setCell (HO5.out.lt g3 rfl).1 _⟩
          case measure => simp only [intOf]; omega
      · have hE0 : endB r = false := by simpa using hE
        have hE2 : ¬ (r = 10 ∨ bidi r = 11) := of_decide_eq_false hE0
        rw [hcc] at hE2
        have hb11 : (c == 11) = false := by simp; omega
        have hb10 : (r == 10) = false := by simp; omega
        rw [hE0] at hst
        cases b0
        · have HNX : Hid (emT x lev m (m - p) = false) := by
            unfold Hid; rw [hst]; by_cases q : lv < 0
            · rw [if_pos q]
            · rw [if_neg q]; rfl
          clear hst hla hem hlv hT hM hcc hE hE0 hE2 hr
          go_wp2_with (go_at_call 10; refine (specBidi _ _).mono ?_; rintro e w5 ⟨rfl, b5⟩; rw [HC.out]; have HB5 : Hid (Below w.heap.size w w5) := bstep hB.out b5; have HO5 : Hid (OwnI w5 w.heap.size (.slice (some ⟨g3, 0, none⟩) m c3) (llP x lev m base (p + 1))) := hO.out.below b5)
          go_roundw
          case rel => exact ⟨p, false, rfl, HNX.out, by first | rfl | go_num, by omega, by rw [HS2.out (.inl HNX.out)]; exact HO5.out, HB5.out⟩
          case measure => simp only [intOf]; omega
        · cases M
          · have hl0 : 0 ≤ lv := by
              rcases Int.lt_or_le lv 0 with q | q
              · have := (empty_tells (hT.1 q)).1; rw [hM] at this; cases this
              · exact q
            have hG : goesB r = false := by rw [← empty_not (hT.2 hl0)]; exact hM
            have HNX : Hid (emT x lev m (m - p) = false) := by unfold Hid; rw [hst, if_neg (by omega), hG]; rfl
            clear hst hla hem hlv hT hM hcc hE hE0 hE2 hr hG
            go_wp2_with (first | (go_at_call 10; refine (specBidi _ _).mono ?_; rintro e w5 ⟨rfl, b5⟩; rw [HC.out]; have HB5 : Hid (Below w.heap.size w w5) := bstep hB.out b5; have HO5 : Hid (OwnI w5 w.heap.size (.slice (some ⟨g3, 0, none⟩) m c3) (llP x lev m base (p + 1))) := hO.out.below b5) | (go_at_call 88; refine (specEmpty _ _ false HM.out).mono ?_; rintro e w6 ⟨rfl, b6⟩; have HB6 : Hid (Below w.heap.size w w6) := bstep HB5.out b6; have HO6 : Hid (OwnI w6 w.heap.size (.slice (some ⟨g3, 0, none⟩) m c3) (llP x lev m base (p + 1))) := HO5.out.below b6))
            go_roundw
            case rel => exact ⟨p, false, rfl, HNX.out, by first | rfl | go_num, by omega, by rw [HS2.out (.inl HNX.out)]; exact HO6.out, HB6.out⟩
            case measure => simp only [intOf]; omega
          · by_cases hneg : lv < 0
            · have HNX : Hid (emT x lev m (m - p) = true) := by unfold Hid; rw [hst, if_pos hneg]
              have HFN : Hid (fn (llP x lev m base (p + 1)) p = lv) := by unfold Hid; rw [fn_llP hpm, if_neg (by omega), hlv]
              clear hst hla hem hlv hT hM hcc hE hE0 hE2 hr
              go_wp2_with (first | (go_at_call 10; refine (specBidi _ _).mono ?_; rintro e w5 ⟨rfl, b5⟩; rw [HC.out]; have HB5 : Hid (Below w.heap.size w w5) := bstep hB.out b5; have HO5 : Hid (OwnI w5 w.heap.size (.slice (some ⟨g3, 0, none⟩) m c3) (llP x lev m base (p + 1))) := hO.out.below b5) | (go_at_call 88; refine (specEmpty _ _ true HM.out).mono ?_; rintro e w6 ⟨rfl, b6⟩; have HB6 : Hid (Below w.heap.size w w6) := bstep HB5.out b6; have HO6 : Hid (OwnI w6 w.heap.size (.slice (some ⟨g3, 0, none⟩) m c3) (llP x lev m base (p + 1))) := HO5.out.below b6; have c6 := HO6.out.cellN p (by omega); rw [HFN.out] at c6))
              go_roundw
              case rel => exact ⟨p, true, rfl, HNX.out, by first | rfl | go_num, by omega, by rw [HS2.out (.inr hneg)]; exact HO6.out, HB6.out⟩
              case measure => simp only [intOf]; omega
            · have hl0 : 0 ≤ lv := by omega
              have hG : goesB r = true := by rw [← empty_not (hT.2 hl0)]; exact hM
              have HNX : Hid (emT x lev m (m - p) = true) := by unfold Hid; rw [hst, if_neg hneg, hG]; rfl
              have HFN : Hid (fn (llP x lev m base (p + 1)) p = lv) := by unfold Hid; rw [fn_llP hpm, if_neg (by omega), hlv]
              clear hst hla hem hlv hT hM hcc hE hE0 hE2 hr hG
              go_wp2_with (first | (go_at_call 10; refine (specBidi _ _).mono ?_; rintro e w5 ⟨rfl, b5⟩; rw [HC.out]; have HB5 : Hid (Below w.heap.size w w5) := bstep hB.out b5; have HO5 : Hid (OwnI w5 w.heap.size (.slice (some ⟨g3, 0, none⟩) m c3) (llP x lev m base (p + 1))) := hO.out.below b5) | (go_at_call 88; refine (specEmpty _ _ true HM.out).mono ?_; rintro e w6 ⟨rfl, b6⟩; have HB6 : Hid (Below w.heap.size w w6) := bstep HB5.out b6; have HO6 : Hid (OwnI w6 w.heap.size (.slice (some ⟨g3, 0, none⟩) m c3) (llP x lev m base (p + 1))) := HO5.out.below b6; have c6 := HO6.out.cellN p (by omega); rw [HFN.out] at c6; have f6 : w6.frozen? ⟨g3, p, none⟩ = false := HO6.out.frozenN p))
              go_roundw
              case rel => exact ⟨p, true, rfl, HNX.out, by first | rfl | go_num, by omega, by rw [← HS1.out hl0 HNX.out]; exact HO6.out.storedN _ _, HB6.out.setCell (HO6.out.lt g3 rfl).1 _⟩
              case measure => simp only [intOf]; omega

/-- What is told of the classes by the levels. -/
theorem levF_tells {l : List Int} {mt : Nat → Nat} {base : Int} {n : Nat} (h : LevTxt l mt base n) {j : Nat} (hj : j < n) : (fn (levsF l mt base) j < 0 → tellsB (cl l j) = true) ∧ (0 ≤ fn (levsF l mt base) j → tellsB (cl l j) = false) := by
  have hb := lvAt_bd (cl l) (fsF (cl l) mt) h.b01 j
  rw [← fn_lvL (n := n) hj] at hb
  by_cases hs : 0 ≤ fn (lvL (cl l) (fsF (cl l) mt) base n) j
  · obtain ⟨r, k, hk, _, _, e, _⟩ := levF_at h hj hs
    have hm := moreF_bd (fn (lvL (cl l) (fsF (cl l) mt) base n) j) (fn (runL (cl l) l (lvL (cl l) (fsF (cl l) mt) base n) (clL (cl l) (fsF (cl l) mt) base n) n mt base r) k)
    have h0 : 0 ≤ fn (levsF l mt base) j := by omega
    refine ⟨fun q => by omega, fun _ => ?_⟩
    rcases hb with ⟨_, q⟩ | ⟨q, _⟩
    · omega
    · exact q
  · have e := levF_no h hj (by omega)
    refine ⟨fun _ => ?_, fun q => by omega⟩
    rcases hb with ⟨q, _⟩ | ⟨_, q, _⟩
    · exact q
    · have := h.b01.1; omega

set_option maxRecDepth 10000 in
set_option maxHeartbeats 8000000 in
theorem specLine (v : Value) (l : List Int) (mt : Nat → Nat) (base f t : Int) (w : World) (a : Option Addr) (cap : Nat) (hva : v = .slice a l.length cap) (hv : Arg w v l) (hl : l.length ≤ 1048576) (hmt : Hid (MateFn (cl l) l.length mt)) :
    Calls Tryz.prog 19 #[v, .int .i64 base, .int .i64 f, .int .i64 t] w fun e w' => (∃ v', e = .returned v' ∧ OwnI w' w.heap.size v' (lineLR l mt base f t)) ∧ Below w.heap.size w w' := by
  subst hva
  have hl4 : l.length ≤ 4194304 := by omega
  have HV : Hid (Arg w (.slice a l.length cap) l) := hv
  have ho := own_empty w w.heap.size 3 (Nat.le_refl _) rfl
  have HO : Hid _ := ho
  have HB0 : Hid (Below w.heap.size w (w.alloc (.cells #[] 3))) := (Below.refl _ _).alloc (Nat.le_refl _) _
  by_cases hq : okT l base = true
  · have HQ : Hid (okT l base = true) := hq
    by_cases h1 : 0 ≤ f ∧ f ≤ l.length
    · have H1 : Hid (inB f 0 (l.length : Int) = true) := decide_eq_true h1
      by_cases h2 : f ≤ t ∧ t ≤ l.length
      · have H2 : Hid (inB t f (l.length : Int) = true) := decide_eq_true h2
        have hR := lineLR_yes (mt := mt) (l := l) (base := base) (f := f) (t := t) ⟨hq, h1.1, h2.1, h2.2⟩
        have hlx := levTxt hq hmt.out
        obtain ⟨hok, hb01, h80⟩ := okT_out hq
        have hA3 := levsF_len l mt base
        obtain ⟨f0, hf0⟩ : ∃ f0, f.toNat = f0 := ⟨_, rfl⟩
        obtain ⟨m, hm⟩ : ∃ m, t.toNat - f.toNat = m := ⟨_, rfl⟩
        have hfe : f = (f0 : Int) := by omega
        have hte : t = (f0 : Int) + (m : Int) := by omega
        have hfm : f0 + m ≤ l.length := by omega
        rw [hR]
        unfold lineLv
        rw [hm, hf0]
        subst hfe hte
        -- the levels, and what the line makes of them
        have HLV : Hid (Calls Tryz.prog 37 #[.slice a l.length cap, .int .i64 base] w fun e w' => (∃ v', e = .returned v' ∧ OwnI w' w.heap.size v' (levsF l mt base)) ∧ Below w.heap.size w w') := by
          by_cases h0 : l = []
          · subst h0
            have e : levsF [] mt base = [] := List.eq_nil_of_length_eq_zero (levsF_len [] mt base)
            rw [e]
            exact specLevels0 a cap mt base w hv hb01 hmt
          · rcases hv with ⟨_, _, _, e⟩ | ⟨b, off, cap', e, hb, hlc, hcm, hat⟩
            · exact absurd e h0
            · simp only [Value.slice.injEq, true_and] at e
              obtain ⟨rfl, rfl⟩ := e
              exact specLevels1 b off cap l.length l mt base w rfl (List.length_pos_iff.2 h0) h80 hok hb01 hb hat HV.out hmt
        have HLN : Hid (∀ w1 v1, Below w.heap.size w w1 → OwnI w1 w.heap.size v1 (levsF l mt base) → Calls Tryz.prog 49 #[.slice a l.length cap, v1, .int .i64 base, .int .i64 (f0 : Int), .int .i64 ((f0 : Int) + (m : Int))] w1 fun e w' => (∃ v', e = .returned v' ∧ OwnI w' w1.heap.size v' (llF (fun j => fn l (f0 + j)) (fun j => fn (levsF l mt base) (f0 + j)) m base)) ∧ Below w1.heap.size w1 w') := fun w1 v1 hb1 o1 => by
          by_cases hm0 : m = 0
          · subst hm0
            rw [show (f0 : Int) + ((0 : Nat) : Int) = (f0 : Int) by omega]
            rw [List.eq_nil_of_length_eq_zero (llF_len _ _ 0 _)]
            rcases o1.forms with ⟨rfl, e⟩ | ⟨g, c, rfl, _, _, hc, _, _⟩
            · have hln : l.length = 0 := by rw [← hA3, e]; rfl
              have hf : f0 = 0 := by omega
              subst hf
              rw [hln]
              exact specLineN a cap base w1
            · rw [hA3] at hc ⊢
              exact specLine0 a g l.length cap c f0 base w1 (by omega) hc h80
          · obtain ⟨g, c, e, hc⟩ := OwnI.form1 o1 (fun e => by rw [e] at hA3; simp at hA3; omega)
            rw [hA3] at e hc
            subst e
            obtain ⟨bl, ol, e1, hbl, hat⟩ : ∃ bl ol, a = some ⟨bl, ol, none⟩ ∧ bl < w.heap.size ∧ At w bl ol l := by
              rcases HV.out with ⟨a0, cap0, e1, e2⟩ | ⟨b, off, cap', e1, hb, hlc, hcm, hat⟩
              · rw [e2] at hfm; simp at hfm; omega
              · simp only [Value.slice.injEq] at e1
                exact ⟨b, off, e1.1, hb, hat⟩
            subst e1
            rw [show (f0 : Int) + (m : Int) = ((f0 + m : Nat) : Int) by omega]
            exact specLine1 bl ol cap g c l.length f0 m l (levsF l mt base) base _ _ w1 rfl hA3 hfm (by omega) h80 (Nat.lt_of_lt_of_le hbl hb1.size) (o1.lt g rfl).2 (hat.below hb1 hbl) (fun j hj => by rw [Nat.zero_add]; exact o1.cellN j (by rw [← hA3]; exact hj)) hc (fun j hj => ⟨rfl, rfl⟩) (fun j hj => levF_tells hlx (by omega))
        clear hq hR hlx hok hb01 h80 hA3 hf0 hm hv ho hmt h1 h2
        go_enter Tryz.func19, Tryz.ntmps19
        go_wp2_with (first | (go_at_call 36; refine (specOk3 _ l base _ HV.out hl4).mono ?_; rintro e w1 ⟨rfl, hw1⟩; rw [HQ.out, hw1]; clear hw1 w1) | (go_at_call 29; refine (specIn _ _ _ _).mono ?_; rintro e w2 ⟨rfl, hw2⟩; (first | rw [H1.out, hw2] | rw [H2.out, hw2]); clear hw2 w2))
        refine Calls.mono HLV.out ?_
        rintro e w3 ⟨⟨v3, rfl, o3⟩, b3⟩
        have HL3 := HLN.out w3 v3 b3 o3
        have HL4 : Hid _ := HL3
        have HB3 : Hid (Below w.heap.size w w3) := b3
        have hsz := b3.size
        clear HL3 o3 b3
        go_wp2_with fail
        refine Calls.mono HL4.out ?_
        rintro e w4 ⟨⟨v4, rfl, o4⟩, b4⟩
        go_wp2_with fail
        go_ret
        exact ⟨⟨_, rfl, o4.mono hsz⟩, bstep HB3.out b4⟩
      · have H2 : Hid (inB t f (l.length : Int) = false) := decide_eq_false h2
        have hR := lineLR_no (mt := mt) (l := l) (base := base) (f := f) (t := t) (fun h => h2 ⟨h.2.2.1, h.2.2.2⟩)
        have HR : Hid _ := hR
        clear hq hR hv ho hmt h1 h2
        go_enter Tryz.func19, Tryz.ntmps19
        go_wp2_with (first | (go_at_call 36; refine (specOk3 _ l base _ HV.out hl4).mono ?_; rintro e w1 ⟨rfl, hw1⟩; rw [HQ.out, hw1]; clear hw1 w1) | (go_at_call 29; refine (specIn _ _ _ _).mono ?_; rintro e w2 ⟨rfl, hw2⟩; (first | rw [H1.out, hw2] | rw [H2.out, hw2]); clear hw2 w2))
        go_ret
        exact ⟨⟨_, rfl, by rw [HR.out]; exact HO.out⟩, HB0.out⟩
    · have H1 : Hid (inB f 0 (l.length : Int) = false) := decide_eq_false h1
      have hR := lineLR_no (mt := mt) (l := l) (base := base) (f := f) (t := t) (fun h => h1 ⟨h.2.1, by omega⟩)
      have HR : Hid _ := hR
      clear hq hR hv ho hmt h1
      go_enter Tryz.func19, Tryz.ntmps19
      go_wp2_with (first | (go_at_call 36; refine (specOk3 _ l base _ HV.out hl4).mono ?_; rintro e w1 ⟨rfl, hw1⟩; rw [HQ.out, hw1]; clear hw1 w1) | (go_at_call 29; refine (specIn _ _ _ _).mono ?_; rintro e w2 ⟨rfl, hw2⟩; rw [H1.out, hw2]; clear hw2 w2))
      go_ret
      exact ⟨⟨_, rfl, by rw [HR.out]; exact HO.out⟩, HB0.out⟩
  · have HQ : Hid (okT l base = false) := by show _ = _; simpa using hq
    have hR := lineLR_no (mt := mt) (l := l) (base := base) (f := f) (t := t) (fun h => hq h.1)
    have HR : Hid _ := hR
    clear hq hR hv ho hmt
    go_enter Tryz.func19, Tryz.ntmps19
    go_wp2_with (go_at_call 36; refine (specOk3 _ l base _ HV.out hl4).mono ?_; rintro e w1 ⟨rfl, hw1⟩; rw [HQ.out, hw1]; clear hw1 w1)
    go_ret
    exact ⟨⟨_, rfl, by rw [HR.out]; exact HO.out⟩, HB0.out⟩
end Go.Proofs.YtgojdlbidjnmmaaGreat
namespace Go.Proofs.YtgojdlbidjnmmaaGreat
open Go.ChangeShapes Go.WideShapes Go.ChangeAt Go.RowKit
set_option linter.unusedSimpArgs false

/-- The code that a reader reads: at most 2000 bytes, none of them in the reader's own block. -/
def Code (w : World) (R : Nat) (a : Option Addr) (len : Nat) : Prop :=
  len ≤ 2000 ∧ (len = 0 ∨ ∃ b off, a = some ⟨b, off, none⟩ ∧ b < R ∧ b < w.heap.size ∧ ∀ j, j < len → ∃ x : Int, w.cell? ⟨b, off + j, none⟩ = some (.int .u8 x) ∧ 0 ≤ x ∧ x ≤ 255)
/-- A reader: its code, and how many it has read. -/
def Rd (w : World) (R p : Nat) : Prop :=
  ∃ a len cap, w.heap[R]? = some (.cells #[.slice a len cap, .int .i64 p] 92 (0, 0)) ∧ Code w R a len

theorem rd_cell0 {w : World} {R p : Nat} {v : Value} {T : TypeId} (h : w.heap[R]? = some (.cells #[v, .int .i64 p] T (0, 0))) : w.cell? ⟨R, 0, none⟩ = some v ∧ w.cell? ⟨R, 1, none⟩ = some (.int .i64 p) ∧ w.frozen? ⟨R, 1, none⟩ = false := by
  refine ⟨?_, ?_, ?_⟩
  · rw [cell_of_row w R 0 _ _ _ h]; rfl
  · rw [cell_of_row w R 1 _ _ _ h]; rfl
  · exact frozen_of_row w R 1 _ _ h

theorem xor_nat (a b : Nat) (ha : a < 4611686018427387904) (hb : b < 4611686018427387904) : bits .xor .i64 (a : Int) (b : Int) = ((a ^^^ b : Nat) : Int) := by
  have hx : a ^^^ b < 2 ^ 62 := Nat.xor_lt_two_pow (by omega) (by omega)
  show IntKind.i64.wrap ((BitVec.ofInt 64 (a : Int) ^^^ BitVec.ofInt 64 (b : Int)).toNat : Int) = _
  rw [BitVec.toNat_xor, ofInt_u64 a (by omega), ofInt_u64 b (by omega)]
  simp [IntKind.wrap, IntKind.bits, IntKind.signed]
  omega
theorem xor_pick (X n : Int) (h0 : 0 ≤ X) (h1 : X < 4611686018427387904) (hn : 1 ≤ n) : 0 ≤ (bits .xor .i64 X (X / 64)).tmod n ∧ (bits .xor .i64 X (X / 64)).tmod n < n := by
  obtain ⟨A, rfl⟩ := Int.eq_ofNat_of_zero_le h0
  have e : (A : Int) / 64 = ((A / 64 : Nat) : Int) := by omega
  rw [e, xor_nat A (A / 64) (by omega) (by omega)]
  exact ⟨Int.tmod_nonneg _ (by omega), Int.tmod_lt_of_pos _ (by omega)⟩

set_option maxHeartbeats 2000000 in
theorem pick_any (R p : Nat) (n : Int) (w : World) (hr : Rd w R p) (hp : p ≤ 100000) (hn1 : 1 ≤ n) (hn2 : n ≤ 1000000) :
    Calls Tryz.prog 44 #[.pointer (some ⟨R, 0, none⟩), .int .i64 n] w fun e w' => (∃ k : Nat, e = .returned (.int .i64 k) ∧ (k : Int) < n) ∧ ∃ m, w' = (w.setCell ⟨R, 1, none⟩ (.int .i64 ((p : Int) + 1))).drewN m := by
  obtain ⟨a, len, cap, hblk, hlen, hcode⟩ := hr
  obtain ⟨c0, c1, f1⟩ := rd_cell0 hblk
  by_cases h0 : len = 0
  · subst h0
    go_enter Tryz.func44, Tryz.ntmps44
    go_wp2
    go_ret
    exact ⟨⟨0, rfl, by omega⟩, 0, rfl⟩
  · obtain ⟨b, off, rfl, hbR0, hbw, hbytes⟩ : ∃ b off, a = some ⟨b, off, none⟩ ∧ b < R ∧ b < w.heap.size ∧ ∀ j, j < len → ∃ x : Int, w.cell? ⟨b, off + j, none⟩ = some (.int .u8 x) ∧ 0 ≤ x ∧ x ≤ 255 := by
      rcases hcode with h | h
      · exact absurd h h0
      · exact h
    have hbR : b ≠ R := by omega
    have HB : Hid _ := hbytes
    have hl0 : ((len : Int) == 0) = false := by simp; omega
    clear hbytes hcode
    by_cases hpl : p < len
    · obtain ⟨x, hx, hx0, hx1⟩ := HB.out p hpl
      go_enter Tryz.func44, Tryz.ntmps44
      go_wp2
      go_ret
      have h1 := Int.emod_nonneg x (show n ≠ 0 by omega)
      have h2 := Int.emod_lt_of_pos x (show 0 < n by omega)
      exact ⟨⟨(x % n).toNat, retInt (Int.toNat_of_nonneg h1).symm, by rw [Int.toNat_of_nonneg h1]; exact h2⟩, 0, rfl⟩
    · have hm1 : p % len < len := Nat.mod_lt _ (by omega)
      have hm2 : (p * 7 + 3) % len < len := Nat.mod_lt _ (by omega)
      obtain ⟨x, hx, hx0, hx1⟩ := HB.out (p % len) hm1
      obtain ⟨y, hy, hy0, hy1⟩ := HB.out ((p * 7 + 3) % len) hm2
      have hq : p / len ≤ p := Nat.div_le_self _ _
      have hlp : (0 : Int) < (len : Int) := by omega
      have i1 : (p : Int) % (len : Int) < (len : Int) := Int.emod_lt_of_pos _ hlp
      have j1 : 0 ≤ (p : Int) % (len : Int) := Int.emod_nonneg _ (by omega)
      have j2 : 0 ≤ ((p : Int) * 7 + 3) % (len : Int) := Int.emod_nonneg _ (by omega)
      have i2 : ((p : Int) * 7 + 3) % (len : Int) < (len : Int) := Int.emod_lt_of_pos _ hlp
      have d0 : 0 ≤ (p : Int) / (len : Int) := Int.ediv_nonneg (by omega) (by omega)
      have d1 : (p : Int) / (len : Int) ≤ 100000 := by
        have : (p : Int) / (len : Int) = ((p / len : Nat) : Int) := by simp
        rw [this]; omega
      have HX : Hid _ := xor_pick (x * 131 + y * 1117 + (p : Int) * 29 + (p : Int) / (len : Int) * 53) n (by omega) (by omega) hn1
      go_enter Tryz.func44, Tryz.ntmps44
      go_wp2
      go_quiet (fail)
      go_wp2
      go_ret
      exact ⟨⟨_, retInt (Int.toNat_of_nonneg HX.out.1).symm, by rw [Int.toNat_of_nonneg HX.out.1]; exact HX.out.2⟩, _, rfl⟩
end Go.Proofs.YtgojdlbidjnmmaaGreat
namespace Go.Proofs.YtgojdlbidjnmmaaGreat
open Go.ChangeShapes Go.WideShapes Go.ChangeAt Go.RowKit
set_option linter.unusedSimpArgs false

/-- What a reader's function leaves: the reader has read on, and of what was there no other block has turned. -/
structure Went (w w' : World) (R p' : Nat) : Prop where
  rd : Rd w' R p'
  gr : w.grownBy w' (some R)

theorem grown_trans {a b c : World} {row : Option Nat} (h : a.grownBy b row) (k : b.grownBy c row) : a.grownBy c row :=
  ⟨k.os.trans h.os, k.tape.trans h.tape, k.output.trans h.output, Nat.le_trans h.size k.size, fun i hi hne => (k.block i (Nat.lt_of_lt_of_le hi h.size) hne).trans (h.block i hi hne)⟩
theorem grown_alloc (w : World) (o : Obj) (row : Option Nat) : w.grownBy (w.alloc o) row :=
  ⟨rfl, rfl, rfl, by simp, fun k hk _ => Below.heap_alloc w o k hk⟩
theorem Code.kept {w w' : World} {R len : Nat} {a : Option Addr} (h : Code w R a len) (hg : w.grownBy w' (some R)) : Code w' R a len := by
  refine ⟨h.1, ?_⟩
  rcases h.2 with h0 | ⟨b, off, h1, h2, h3, h4⟩
  · exact .inl h0
  · refine .inr ⟨b, off, h1, h2, Nat.lt_of_lt_of_le h3 hg.size, fun j hj => ?_⟩
    obtain ⟨x, hx, hb⟩ := h4 j hj
    exact ⟨x, (World.cell?_of_block (a := ⟨b, off + j, none⟩) (hg.block b h3 (fun e => by simp at e; omega))).trans hx, hb⟩
theorem Rd.lt {w : World} {R p : Nat} (h : Rd w R p) : R < w.heap.size := by
  obtain ⟨a, len, cap, hb, _⟩ := h
  exact (Array.getElem?_eq_some_iff.1 hb).1
theorem Rd.alloc {w : World} {R p : Nat} (h : Rd w R p) (o : Obj) : Rd (w.alloc o) R p := by
  have hl := h.lt
  obtain ⟨a, len, cap, hb, hc⟩ := h
  exact ⟨a, len, cap, (Below.heap_alloc w o R hl).trans hb, hc.kept (grown_alloc w o _)⟩
/-- What another one's rows do to a reader: nothing. -/
theorem Rd.beside {w w' : World} {R p : Nat} {row : Option Nat} (h : Rd w R p) (hg : w.grownBy w' row) (hc : ∀ k, row = some k → R < k) : Rd w' R p := by
  have hl := h.lt
  obtain ⟨a, len, cap, hb, hcode⟩ := h
  refine ⟨a, len, cap, (hg.block R hl (fun e => by have := hc R e.symm; omega)).trans hb, hcode.1, ?_⟩
  rcases hcode.2 with h0 | ⟨b, off, h1, h2, h3, h4⟩
  · exact .inl h0
  · refine .inr ⟨b, off, h1, h2, Nat.lt_of_lt_of_le h3 hg.size, fun j hj => ?_⟩
    obtain ⟨x, hx, hbd⟩ := h4 j hj
    exact ⟨x, (World.cell?_of_block (a := ⟨b, off + j, none⟩) (hg.block b h3 (fun e => by have := hc b e.symm; omega))).trans hx, hbd⟩
theorem grown_own {w wr w1 : World} {row : Option Nat} {v : Value} (h : w.grownBy wr row) (hg : wr.grownBy w1 v.ownBlock) (ho : ∀ k, v.ownBlock = some k → w.heap.size ≤ k) : w.grownBy w1 row :=
  ⟨hg.os.trans h.os, hg.tape.trans h.tape, hg.output.trans h.output, Nat.le_trans h.size hg.size, fun i hi hne =>
    (hg.block i (Nat.lt_of_lt_of_le hi h.size) (fun e => by have := ho i e.symm; omega)).trans (h.block i hi hne)⟩
theorem OwnI.went {w wr : World} {R p B : Nat} {v : Value} {l : List Int} (h : OwnI w B v l) (hw : Went w wr R p) (hB : R < B) : OwnI wr B v l :=
  h.kept fun k hk => hw.gr.block k (h.lt k hk).2 (fun e => by have := (h.lt k hk).1; simp at e; omega)

theorem pick_went (R p : Nat) (n : Int) (w : World) (hr : Rd w R p) (hp : p ≤ 100000) (hn1 : 1 ≤ n) (hn2 : n ≤ 1000000) :
    Calls Tryz.prog 44 #[.pointer (some ⟨R, 0, none⟩), .int .i64 n] w fun e w' => (∃ k : Nat, e = .returned (.int .i64 k) ∧ (k : Int) < n) ∧ Went w w' R (p + 1) ∧ w'.heap.size = w.heap.size := by
  refine (pick_any R p n w hr hp hn1 hn2).mono ?_
  rintro e w' ⟨hk, m, rfl⟩
  have hl := hr.lt
  obtain ⟨a, len, cap, hb, hcode⟩ := hr
  have hgr : w.grownBy ((w.setCell ⟨R, 1, none⟩ (.int .i64 ((p : Int) + 1))).drewN m) (some R) :=
    ⟨rfl, rfl, rfl, by simp, fun k _ hne => heap_setCell_other w ⟨R, 1, none⟩ k _ (fun e => hne (by rw [e]))⟩
  refine ⟨hk, ⟨⟨a, len, cap, ?_, hcode.kept hgr⟩, hgr⟩, by simp⟩
  show (w.setCell ⟨R, 1, none⟩ (.int .i64 ((p : Int) + 1))).heap[R]? = _
  rw [heap_setCell_same w R 1 _ _ _ hb]
  simp

def isI : Value → Bool
  | .int .i64 _ => true
  | _ => false
theorem isI_get {cs : Array Value} (h : cs.all isI = true) {j : Nat} (hj : j < cs.size) : ∃ x : Int, cs[j]? = some (.int .i64 x) := by
  have := Array.all_eq_true.1 h j hj
  rw [Array.getElem?_eq_getElem hj]
  generalize cs[j] = v at this
  match v, this with
  | .int .i64 x, _ => exact ⟨x, rfl⟩

set_option maxHeartbeats 1000000 in
theorem one_any (R p m : Nat) (cs : Array Value) (T : TypeId) (w : World) (hr : Rd w R p) (hp : p ≤ 100000) (hcs : cs.all isI = true) (hm : cs.size = m) (h1 : 1 ≤ m) (h2 : m ≤ 1000) :
    Calls Tryz.prog 86 #[.pointer (some ⟨R, 0, none⟩), .slice (some ⟨w.heap.size, 0, none⟩) m m] (w.alloc (.cells cs T)) fun e w' => (∃ x : Int, e = .returned (.int .i64 x)) ∧ Went w w' R (p + 1) := by
  have hlt := hr.lt
  go_enter Tryz.func86, Tryz.ntmps86
  go_wp2_with fail
  refine (pick_went R p _ _ (hr.alloc _) hp (by omega) (by omega)).mono ?_
  rintro e w1 ⟨⟨k, rfl, hk⟩, hW, hsz⟩
  obtain ⟨x, hx⟩ := isI_get hcs (show k < cs.size by omega)
  have hcell : w1.cell? ⟨w.heap.size, k, none⟩ = some (.int .i64 x) := by
    have hb : w1.heap[w.heap.size]? = (w.alloc (.cells cs T)).heap[w.heap.size]? := hW.gr.block _ (by simp) (by simp; omega)
    rw [World.cell?_of_block (a := ⟨w.heap.size, k, none⟩) hb]
    simp [hx]
  have hkm : (k : Int) < (m : Int) := by omega
  have HW : Hid _ := hW
  clear hW
  go_wp2_with fail
  go_ret
  exact ⟨⟨x, rfl⟩, HW.out.rd, grown_trans (grown_alloc w _ _) HW.out.gr⟩

set_option maxHeartbeats 4000000 in
theorem rune_any (R p : Nat) (w : World) (hr : Rd w R p) (hp : p ≤ 99000) :
    Calls Tryz.prog 133 #[.pointer (some ⟨R, 0, none⟩)] w fun e w' => (∃ x : Int, e = .returned (.int .i64 x)) ∧ ∃ p', p' ≤ p + 2 ∧ Went w w' R p' := by
  go_enter Tryz.func133, Tryz.ntmps133
  go_wp2_with fail
  refine (pick_went R p _ _ hr (by omega) (by omega) (by omega)).mono ?_
  rintro e w1 ⟨⟨k, rfl, hk⟩, hW, hsz⟩
  have HW : Hid _ := hW
  have HR : Hid _ := hW.rd
  clear hW hsz
  go_wp2_with (go_at_call 86; refine (one_any R (p + 1) _ _ _ _ HR.out (by omega) (by kernel_rfl) (by rfl) (by omega) (by omega)).mono ?_; rintro e w2 ⟨⟨x, rfl⟩, hW2⟩)
  all_goals (go_ret)
  all_goals first
    | exact ⟨⟨_, rfl⟩, p + 2, by omega, hW2.rd, grown_trans HW.out.gr hW2.gr⟩
    | exact ⟨⟨_, rfl⟩, p + 1, by omega, HW.out⟩
end Go.Proofs.YtgojdlbidjnmmaaGreat
namespace Go.Proofs.YtgojdlbidjnmmaaGreat
open Go.ChangeShapes Go.WideShapes Go.ChangeAt Go.RowKit
set_option linter.unusedSimpArgs false

theorem Went.refl {w : World} {R p : Nat} (h : Rd w R p) : Went w w R p := ⟨h, ⟨rfl, rfl, rfl, Nat.le_refl _, fun _ _ _ => rfl⟩⟩
theorem Went.trans {a b c : World} {R p q : Nat} (h : Went a b R p) (k : Went b c R q) : Went a c R q := ⟨k.rd, grown_trans h.gr k.gr⟩
theorem Went.own {w wr w1 : World} {R p B : Nat} {v : Value} {l : List Int} (h : Went w wr R p) (hg : wr.grownBy w1 v.ownBlock) (ho : OwnI wr B v l) (hB : w.heap.size ≤ B) (hR : R < w.heap.size) : Went w w1 R p :=
  ⟨h.rd.beside hg (fun k hk => by have := (ho.lt k hk).1; omega), grown_own h.gr hg (fun k hk => by have := (ho.lt k hk).1; omega)⟩
theorem Went.below {w w' : World} {R p B : Nat} (h : Went w w' R p) (hB : B ≤ R) (hR : R < w.heap.size) : Below B w w' :=
  ⟨h.gr.os, h.gr.tape, h.gr.output, h.gr.size, fun k hk => h.gr.block k (by omega) (fun e => by simp at e; omega)⟩

def lenOf : Value → Nat
  | .slice _ n _ => n
  | _ => 0

set_option maxHeartbeats 4000000 in
theorem runes_any (R p : Nat) (w : World) (hr : Rd w R p) (hp : p ≤ 90000) :
    Calls Tryz.prog 85 #[.pointer (some ⟨R, 0, none⟩)] w fun e w' => (∃ v l, e = .returned v ∧ OwnI w' w.heap.size v l ∧ l.length ≤ 80) ∧ ∃ p', p' ≤ p + 200 ∧ Went w w' R p' := by
  have hlt := hr.lt
  go_enter Tryz.func85, Tryz.ntmps85
  go_wp2_with fail
  refine (pick_went R p _ _ (hr.alloc _) (by omega) (by omega) (by omega)).mono ?_
  rintro e w1 ⟨⟨n, rfl, hn⟩, hW, hsz⟩
  have hW0 : Went w w1 R (p + 1) := ⟨hW.rd, grown_trans (grown_alloc w _ _) hW.gr⟩
  have hO : OwnI w1 w.heap.size (.slice (some ⟨w.heap.size, 0, none⟩) 0 0) [] := (own_empty w w.heap.size 3 (Nat.le_refl _) rfl).went hW hlt
  clear hW hsz
  go_wp2_with fail
  go_loopw [3, 4] (fun q i wr => ∃ (k : Nat) (l : List Int) (p' : Nat), i = .int .i64 k ∧ OwnI wr w.heap.size q l ∧ l.length + k ≤ 23 ∧ p' + 2 * k ≤ p + 47 ∧ Went w wr R p') (fun _ i _ => (intOf i).toNat)
  case atStart => exact ⟨n, [], p + 1, rfl, hO, by simp; omega, by omega, hW0⟩
  case round =>
    obtain ⟨k, l, p', rfl, hown, hlen, hpp, hwent⟩ := hrel
    have hsz := hwent.gr.size
    by_cases hk : k = 0
    · subst hk
      go_wp2_with fail
      refine (pick_went R p' _ _ hwent.rd (by omega) (by omega) (by omega)).mono ?_
      rintro e w2 ⟨⟨m, rfl, hm⟩, hW2, hsz2⟩
      have hW3 := hwent.trans hW2
      have hown2 := hown.went hW2 hlt
      clear hW2 hsz2
      by_cases hm0 : m = 0
      · subst hm0
        go_wp2_with fail
        go_loopw [3] (fun q wr => ∃ (l : List Int) (p' : Nat), (∃ a cap, q = .slice a l.length cap) ∧ OwnI wr w.heap.size q l ∧ l.length ≤ 80 ∧ p' + (80 - l.length) ≤ p + 150 ∧ Went w wr R p') (fun q _ => 80 - lenOf q)
        case atStart =>
          refine ⟨l, p' + 1, ?_, hown2, by omega, by omega, hW3⟩
          rcases hown2.forms with ⟨rfl, rfl⟩ | ⟨g, cap, rfl, _⟩
          · exact ⟨_, _, rfl⟩
          · exact ⟨_, _, rfl⟩
        case round =>
          obtain ⟨l, p', ⟨a, cap, rfl⟩, hown, hlen, hpp, hwent⟩ := hrel
          have hR := hwent.rd
          have hsw := hwent.gr.size
          by_cases h80 : l.length < 80
          · have h80i : (l.length : Int) < 80 := by omega
            go_wp2_with fail
            refine (one_any R p' _ _ _ _ hR (by omega) (by kernel_rfl) (by rfl) (by omega) (by omega)).mono ?_
            rintro e w4 ⟨⟨x, rfl⟩, hW4⟩
            have hW5 := hwent.trans hW4
            have hown4 := hown.went hW4 hlt
            have hs4 := hW5.gr.size
            clear hW4
            go_wp2_with (at_builtin; refine own_append (.tmp 23) (.tmp 27) hown4 (by omega) hs4 rfl rfl rfl rfl ?_; intro v' w5 hown5 hgr5)
            have hl5 : (l ++ [x]).length = l.length + 1 := by simp
            obtain ⟨g, cp, rfl⟩ : ∃ g cp, v' = .slice g (l ++ [x]).length cp := by
              rcases hown5.forms with ⟨_, h⟩ | ⟨g, cap, h, _⟩
              · simp at h
              · exact ⟨_, _, h⟩
            go_roundw
            case rel => exact ⟨l ++ [x], p' + 1, ⟨_, _, rfl⟩, hown5, by omega, by omega, hW5.own hgr5 hown4 (Nat.le_refl _) hlt⟩
            case measure => simp only [lenOf]; omega
          · have h80i : ¬ (l.length : Int) < 80 := by omega
            go_wp2_with fail
            go_ret
            exact ⟨⟨_, rfl, l, hown, by omega⟩, p', by omega, hwent⟩
      · have hmb : ((m : Int) == 0) = false := by simp; omega
        go_wp2_with fail
        go_ret
        exact ⟨⟨_, l, rfl, hown2, by omega⟩, p' + 1, by omega, hW3⟩
    · obtain ⟨j, rfl⟩ : ∃ j, k = j + 1 := ⟨k - 1, by omega⟩
      go_wp2_with fail
      refine (rune_any R p' _ hwent.rd (by omega)).mono ?_
      rintro e w2 ⟨⟨x, rfl⟩, p2, hp2, hW2⟩
      have hW3 := hwent.trans hW2
      have hown2 := hown.went hW2 hlt
      have hs2 := hW3.gr.size
      clear hW2
      go_wp2_with (at_builtin; refine own_append (.tmp 12) (.tmp 15) hown2 (by omega) hs2 rfl rfl rfl rfl ?_; intro v' w3 hown3 hgr3)
      go_roundw
      case rel => exact ⟨j, l ++ [x], p2, by go_num, hown3, by simp; omega, by omega, hW3.own hgr3 hown2 (Nat.le_refl _) hlt⟩
      case measure => simp only [intOf]; omega
end Go.Proofs.YtgojdlbidjnmmaaGreat
namespace Go.Proofs.YtgojdlbidjnmmaaGreat
open Go.ChangeShapes Go.WideShapes Go.ChangeAt Go.RowKit
set_option linter.unusedSimpArgs false

set_option maxHeartbeats 4000000 in
theorem any_any (R p : Nat) (w : World) (hr : Rd w R p) (hp : p ≤ 80000) :
    Calls Tryz.prog 42 #[.pointer (some ⟨R, 0, none⟩)] w fun e w' => (∃ v l, e = .returned v ∧ OwnI w' w.heap.size v l ∧ l.length ≤ 81) ∧ ∃ p', p' ≤ p + 300 ∧ Went w w' R p' := by
  have hlt := hr.lt
  go_enter Tryz.func42, Tryz.ntmps42
  go_wp2_with fail
  refine (runes_any R p _ hr (by omega)).mono ?_
  rintro e w1 ⟨⟨v, l, rfl, hown, hlen⟩, p1, hp1, hW⟩
  go_wp2_with fail
  refine (pick_went R p1 _ _ hW.rd (by omega) (by omega) (by omega)).mono ?_
  rintro e w2 ⟨⟨n, rfl, hn⟩, hW2, hsz⟩
  have hW3 := hW.trans hW2
  have hown2 := hown.went hW2 hlt
  have hs2 := hW3.gr.size
  clear hW2 hsz hW hown
  by_cases h0 : n = 0
  · subst h0
    have hR := hW3.rd
    go_wp2_with fail
    refine (one_any R (p1 + 1) _ _ _ _ hR (by omega) (by kernel_rfl) (by rfl) (by omega) (by omega)).mono ?_
    rintro e w4 ⟨⟨x, rfl⟩, hW4⟩
    have hW5 := hW3.trans hW4
    have hown4 := hown2.went hW4 hlt
    have hs4 := hW5.gr.size
    clear hW4
    go_wp2_with (at_builtin; refine own_append (.tmp 10) (.tmp 14) hown4 (by omega) hs4 rfl rfl rfl rfl ?_; intro v' w5 hown5 hgr5)
    go_ret
    exact ⟨⟨_, _, rfl, hown5, by simp; omega⟩, p1 + 1 + 1, by omega, hW5.own hgr5 hown4 (Nat.le_refl _) hlt⟩
  · have h0b : ((n : Int) == 0) = false := by simp; omega
    by_cases h1 : n = 1
    · subst h1
      go_wp2_with fail
      go_loopw [3] (fun q wr => ∃ (l : List Int), (∃ a cap, q = .slice a l.length cap) ∧ OwnI wr w.heap.size q l ∧ l.length ≤ 81 ∧ Went w wr R (p1 + 1)) (fun q _ => 81 - lenOf q)
      case atStart =>
        refine ⟨l, ?_, hown2, by omega, hW3⟩
        rcases hown2.forms with ⟨rfl, rfl⟩ | ⟨g, cap, rfl, _⟩
        · exact ⟨_, _, rfl⟩
        · exact ⟨_, _, rfl⟩
      case round =>
        obtain ⟨l, ⟨a, cap, rfl⟩, hown, hlen, hwent⟩ := hrel
        have hsw := hwent.gr.size
        by_cases h80 : l.length ≤ 80
        · have h80i : (l.length : Int) ≤ 80 := by omega
          go_wp2_with (at_builtin; refine own_append (.tmp 21) (.tmp 22) hown (by omega) hsw rfl rfl rfl rfl ?_; intro v' w5 hown5 hgr5)
          have hl5 : (l ++ [(97 : Int)]).length = l.length + 1 := by simp
          obtain ⟨g, cp, rfl⟩ : ∃ g cp, v' = .slice g (l ++ [(97 : Int)]).length cp := by
            rcases hown5.forms with ⟨_, h⟩ | ⟨g, cap, h, _⟩
            · simp at h
            · exact ⟨_, _, h⟩
          go_roundw
          case rel => exact ⟨l ++ [97], ⟨_, _, rfl⟩, hown5, by omega, hwent.own hgr5 hown (Nat.le_refl _) hlt⟩
          case measure => simp only [lenOf]; omega
        · have h80i : ¬ (l.length : Int) ≤ 80 := by omega
          go_wp2_with fail
          go_ret
          exact ⟨⟨_, rfl, l, hown, by omega⟩, p1 + 1, by omega, hwent⟩
    · have h1b : ((n : Int) == 1) = false := by simp; omega
      go_wp2_with fail
      go_ret
      exact ⟨⟨_, _, rfl, hown2, by omega⟩, p1 + 1, by omega, hW3⟩

/-- The bytes of a code that came in. -/
def Bytes (w : World) (a : Option Addr) (len cap : Nat) : Prop :=
  len ≤ cap ∧ cap ≤ maxLen ∧ (len = 0 ∨ ∃ b off, a = some ⟨b, off, none⟩ ∧ b < w.heap.size ∧ ∀ j, j < len → ∃ x : Int, w.cell? ⟨b, off + j, none⟩ = some (.int .u8 x) ∧ 0 ≤ x ∧ x ≤ 255)
theorem Bytes.below {w w' : World} {a : Option Addr} {len cap : Nat} (h : Bytes w a len cap) (hb : Below w.heap.size w w') : Bytes w' a len cap := by
  refine ⟨h.1, h.2.1, ?_⟩
  rcases h.2.2 with h0 | ⟨b, off, h1, h2, h3⟩
  · exact .inl h0
  · refine .inr ⟨b, off, h1, Nat.lt_of_lt_of_le h2 hb.size, fun j hj => ?_⟩
    obtain ⟨x, hx, hbd⟩ := h3 j hj
    exact ⟨x, (hb.cell (p := ⟨b, off + j, none⟩) h2).trans hx, hbd⟩

theorem rd_new {w : World} {a : Option Addr} {len cap : Nat} (hlen : len ≤ 2000) (h : len = 0 ∨ ∃ b off, a = some ⟨b, off, none⟩ ∧ b < w.heap.size ∧ ∀ j, j < len → ∃ x : Int, w.cell? ⟨b, off + j, none⟩ = some (.int .u8 x) ∧ 0 ≤ x ∧ x ≤ 255) :
    Rd (w.alloc (.cells #[.slice a len cap, .int .i64 0] 92)) w.heap.size 0 := by
  refine ⟨a, len, cap, by show (w.heap.push _)[w.heap.size]? = _; simp, hlen, ?_⟩
  rcases h with h0 | ⟨b, off, h1, h2, h3⟩
  · exact .inl h0
  · refine .inr ⟨b, off, h1, h2, by simp; omega, fun j hj => ?_⟩
    obtain ⟨x, hx, hbd⟩ := h3 j hj
    exact ⟨x, (World.cell?_of_block (a := ⟨b, off + j, none⟩) (Below.heap_alloc w _ b h2)).trans hx, hbd⟩

set_option maxHeartbeats 1000000 in
theorem open_any (a : Option Addr) (len cap : Nat) (w : World) (h : Bytes w a len cap) :
    Calls Tryz.prog 41 #[.slice a len cap] w fun e w' => e = .returned (.pointer (some ⟨w.heap.size, 0, none⟩)) ∧ Rd w' w.heap.size 0 ∧ Below w.heap.size w w' := by
  obtain ⟨hlc, hcm, hcode⟩ := h
  unfold maxLen at hcm
  by_cases hbig : 2000 < len
  · obtain ⟨b, off, rfl, hb, hbytes⟩ : ∃ b off, a = some ⟨b, off, none⟩ ∧ b < w.heap.size ∧ ∀ j, j < len → ∃ x : Int, w.cell? ⟨b, off + j, none⟩ = some (.int .u8 x) ∧ 0 ≤ x ∧ x ≤ 255 := by
      rcases hcode with h | h
      · omega
      · exact h
    have HB : Hid _ := hbytes
    clear hbytes hcode
    have hbi : (2000 : Int) < (len : Int) := by omega
    have hci : (2000 : Int) ≤ (cap : Int) := by omega
    go_enter Tryz.func41, Tryz.ntmps41
    go_wp2
    go_ret
    exact ⟨rfl, rd_new (by omega) (.inr ⟨b, off, rfl, hb, fun j hj => HB.out j (by omega)⟩), by go_grown⟩
  · have hbi : (len : Int) ≤ 2000 := by omega
    have HC : Hid _ := hcode
    clear hcode
    go_enter Tryz.func41, Tryz.ntmps41
    go_wp2
    go_ret
    exact ⟨rfl, rd_new (by omega) HC.out, by go_grown⟩
end Go.Proofs.YtgojdlbidjnmmaaGreat
namespace Go.Proofs.YtgojdlbidjnmmaaGreat
open Go.ChangeShapes Go.WideShapes Go.ChangeAt Go.RowKit
set_option linter.unusedSimpArgs false

theorem six_get {w : World} {R : Nat} {a b c d e f : Int} {k : Nat} {T : TypeId} (h : w.heap[R]? = some (.cells #[.int .i64 a, .int .i64 b, .int .i64 c, .int .i64 d, .int .i64 e, .int .i64 f] T (0, 0))) (hk : k < 6) : ∃ x : Int, w.cell? ⟨R, k, none⟩ = some (.int .i64 x) := by
  rw [cell_of_row w R k _ _ _ h]
  rcases (by omega : k = 0 ∨ k = 1 ∨ k = 2 ∨ k = 3 ∨ k = 4 ∨ k = 5) with e | e | e | e | e | e
  all_goals (subst e; exact ⟨_, rfl⟩)

set_option maxHeartbeats 1000000 in
theorem base_any (R p : Nat) (w : World) (hr : Rd w R p) (hp : p ≤ 90000) :
    Calls Tryz.prog 45 #[.pointer (some ⟨R, 0, none⟩)] w fun e w' => (∃ b : Int, e = .returned (.int .i64 b)) ∧ Went w w' R (p + 1) := by
  have hlt := hr.lt
  go_enter Tryz.func45, Tryz.ntmps45
  go_wp2_with fail
  refine (pick_went R p _ _ (hr.alloc _) (by omega) (by omega) (by omega)).mono ?_
  rintro e w5 ⟨⟨x4, rfl, hx4⟩, hW5, hz5⟩
  have hV5 : Went w w5 R (p + 1) := ⟨hW5.rd, grown_trans (grown_alloc w _ _) hW5.gr⟩
  obtain ⟨x5, hx5⟩ : ∃ x : Int, w5.cell? ⟨w.heap.size, x4 * 6 / 18, none⟩ = some (.int .i64 x) := by
    refine six_get (T := 3) (a := 0) (b := 1) (c := 0) (d := 1) (e := 2) (f := -1) ?_ (by omega)
    rw [hW5.gr.block _ (by simp) (by simp; omega)]
    show (w.heap.push _)[w.heap.size]? = _
    simp
  clear hW5 hz5
  go_wp2_with fail
  go_ret
  exact ⟨⟨x5, rfl⟩, hV5⟩

set_option maxHeartbeats 1000000 in
theorem drawTold (a : Option Addr) (len cap : Nat) (w : World) (h : Bytes w a len cap) :
    Calls Tryz.prog 28 #[.slice a len cap] w fun e w' => (∃ v l b, e = .returned (.tuple #[v, .int .i64 b]) ∧ OwnI w' w.heap.size v l ∧ l.length ≤ 81) ∧ Below w.heap.size w w' := by
  go_enter Tryz.func28, Tryz.ntmps28
  go_wp2_with fail
  refine (open_any a len cap w h).mono ?_
  rintro e w1 ⟨rfl, hR, hB⟩
  have hlt := hR.lt
  have hsz := hB.size
  go_wp2_with fail
  refine (any_any w.heap.size 0 w1 hR (by omega)).mono ?_
  rintro e w2 ⟨⟨v, l, rfl, hown, hl⟩, p', hp', hW⟩
  go_wp2_with fail
  refine (base_any w.heap.size p' w2 hW.rd (by omega)).mono ?_
  rintro e w3 ⟨⟨b, rfl⟩, hW3⟩
  have ho3 := hown.went hW3 hlt
  have hV := hW.trans hW3
  clear hW hW3 hown
  go_wp2_with fail
  go_ret2
  exact ⟨⟨v, l, b, rfl, ho3.mono (by omega), hl⟩, hB.trans (hV.below (Nat.le_refl _) hlt)⟩
end Go.Proofs.YtgojdlbidjnmmaaGreat
namespace Go.Proofs.YtgojdlbidjnmmaaGreat
open Go.ChangeShapes Go.WideShapes Go.ChangeAt Go.RowKit
set_option linter.unusedSimpArgs false
set_option linter.unusedVariables false

theorem results_tmp4 {fn : Func} {t u v x : Tmp} (h : fn.results = #[.tmp t, .tmp u, .tmp v, .tmp x]) (tmps : Array Value) (P : Program) (w : World) :
    (results fn tmps).run P w = .ok (.tuple #[tmps.getD t undef, tmps.getD u undef, tmps.getD v undef, tmps.getD x undef]) w := by
  simp [results, h]
set_option maxHeartbeats 2000000 in
theorem line_any (R p c : Nat) (w : World) (hr : Rd w R p) (hp : p ≤ 90000) (hc : c ≤ 1000) :
    Calls Tryz.prog 43 #[.pointer (some ⟨R, 0, none⟩), .int .i64 (c : Int)] w fun e w' => (∃ f t : Nat, e = .returned (.tuple #[.int .i64 (f : Int), .int .i64 (t : Int)]) ∧ f ≤ c ∧ f ≤ t ∧ t ≤ c) ∧ Went w w' R (p + 2) := by
  have hlt := hr.lt
  go_enter Tryz.func43, Tryz.ntmps43
  go_wp2_with fail
  refine (pick_went R p _ _ hr (by omega) (by omega) (by omega)).mono ?_
  rintro e w1 ⟨⟨k, rfl, hk⟩, hW1, hz1⟩
  have hkc : k ≤ c := by omega
  go_wp2_with fail
  refine (pick_went R (p + 1) _ _ hW1.rd (by omega) (by omega) (by omega)).mono ?_
  rintro e w2 ⟨⟨j, rfl, hj⟩, hW2, hz2⟩
  have hjc : k + j ≤ c := by omega
  go_wp2_with fail
  go_ret2
  exact ⟨⟨k, k + j, by first | rfl | simp, hkc, by omega, hjc⟩, hW1.trans hW2⟩
set_option maxHeartbeats 2000000 in
theorem drawLine (a : Option Addr) (len cap : Nat) (w : World) (h : Bytes w a len cap) :
    Calls Tryz.prog 17 #[.slice a len cap] w fun e w' => (∃ (v : Value) (l : List Int) (b : Int) (f t : Nat), e = .returned (.tuple #[v, .int .i64 b, .int .i64 (f : Int), .int .i64 (t : Int)]) ∧ OwnI w' w.heap.size v l ∧ l.length ≤ 81 ∧ f ≤ l.length ∧ f ≤ t ∧ t ≤ l.length + 1) ∧ Below w.heap.size w w' := by
  go_enter Tryz.func17, Tryz.ntmps17
  go_wp2_with fail
  refine (open_any a len cap w h).mono ?_
  rintro e w1 ⟨rfl, hR, hB⟩
  have hlt := hR.lt
  have hsz := hB.size
  go_wp2_with fail
  refine (any_any w.heap.size 0 w1 hR (by omega)).mono ?_
  rintro e w2 ⟨⟨v, l, rfl, hown, hl⟩, p', hp', hW⟩
  obtain ⟨av, n, cv, rfl, hn⟩ := hown.slicZ
  have HN : Hid (l.length = n) := hn
  have hn81 : n ≤ 81 := by omega
  clear hn
  go_wp2_with fail
  refine (line_any w.heap.size p' n w2 hW.rd (by omega) (by omega)).mono ?_
  rintro e w3 ⟨⟨f, t, rfl, hf1, hf2, hf3⟩, hW3⟩
  have ho3 := hown.went hW3 hlt
  have hV := hW.trans hW3
  clear hW hown hW3
  go_wp2_with fail
  refine (pick_went w.heap.size (p' + 2) 16 w3 hV.rd (by omega) (by omega) (by omega)).mono ?_
  rintro e w4 ⟨⟨k, rfl, hk⟩, hW4, hz4⟩
  have ho4 := ho3.went hW4 hlt
  have hV4 := hV.trans hW4
  clear hV ho3 hW4 hz4
  by_cases hk0 : k = 0
  · subst hk0
    go_wp2_with fail
    refine (base_any w.heap.size (p' + 2 + 1) w4 hV4.rd (by omega)).mono ?_
    rintro e w5 ⟨⟨b, rfl⟩, hW5⟩
    have ho5 := ho4.went hW5 hlt
    have hV5 := hV4.trans hW5
    clear hW5 ho4 hV4
    go_wp2_with fail
    ((try simp only [Exit.inBlock, Exit.then]); refine bodyPost_ret (results_tmp4 rfl _ _ _) rfl ?_)
    exact ⟨⟨_, l, b, f, n + 1, by first | rfl | simp, ho5.mono (by omega), hl, by rw [HN.out]; exact hf1, by omega, by rw [HN.out]; omega⟩, hB.trans (hV5.below (Nat.le_refl _) hlt)⟩
  · have hkb : ((k : Int) == 0) = false := by simp; omega
    go_wp2_with fail
    refine (base_any w.heap.size (p' + 2 + 1) w4 hV4.rd (by omega)).mono ?_
    rintro e w5 ⟨⟨b, rfl⟩, hW5⟩
    have ho5 := ho4.went hW5 hlt
    have hV5 := hV4.trans hW5
    clear hW5 ho4 hV4
    go_wp2_with fail
    ((try simp only [Exit.inBlock, Exit.then]); refine bodyPost_ret (results_tmp4 rfl _ _ _) rfl ?_)
    exact ⟨⟨_, l, b, f, t, by first | rfl | simp, ho5.mono (by omega), hl, by rw [HN.out]; exact hf1, by omega, by rw [HN.out]; omega⟩, hB.trans (hV5.below (Nat.le_refl _) hlt)⟩
set_option maxHeartbeats 2000000 in
theorem drawSeen (a : Option Addr) (len cap : Nat) (w : World) (h : Bytes w a len cap) :
    Calls Tryz.prog 20 #[.slice a len cap] w fun e w' => (∃ (v : Value) (l : List Int) (b : Int) (f t : Nat), e = .returned (.tuple #[v, .int .i64 b, .int .i64 (f : Int), .int .i64 (t : Int)]) ∧ OwnI w' w.heap.size v l ∧ l.length ≤ 81 ∧ f ≤ l.length ∧ f ≤ t ∧ t ≤ l.length + 1) ∧ Below w.heap.size w w' := by
  go_enter Tryz.func20, Tryz.ntmps20
  go_wp2_with fail
  refine (drawLine a len cap w h).mono ?_
  rintro e w1 ⟨⟨v, l, b, f, t, rfl, o1, hl, h1, h2, h3⟩, b1⟩
  go_wp2_with fail
  ((try simp only [Exit.inBlock, Exit.then]); refine bodyPost_ret (results_tmp4 rfl _ _ _) rfl ?_)
  exact ⟨⟨v, l, b, f, t, rfl, o1, hl, h1, h2, h3⟩, b1⟩
end Go.Proofs.YtgojdlbidjnmmaaGreat
namespace Go.Proofs.YtgojdlbidjnmmaaGreat
open Go.ChangeShapes Go.WideShapes Go.ChangeAt Go.RowKit
set_option linter.unusedSimpArgs false

def eqBw (a b : List Int) : Bool := decide (a = b)
theorem eqBw_self (a : List Int) : eqBw a a = true := by simp [eqBw]
theorem eqBw_no {a b : List Int} (h : a ≠ b) : eqBw a b = false := by simp [eqBw, h]

set_option maxHeartbeats 2000000 in
theorem wcInts_any (v1 v2 : Value) (l1 l2 : List Int) (w : World) (h1 : Arg w v1 l1) (h2 : Arg w v2 l2) (hl : l1.length ≤ 4194304) :
    Calls Tryz.prog 12 #[v1, v2] w fun e w' => e = .returned (.bool (eqBw l1 l2)) ∧ ∃ n, w' = w.drewN n := by
  by_cases hn : l1.length = l2.length
  · rcases h1 with ⟨a1, c1, rfl, rfl⟩ | ⟨b, off, cap, rfl, hb, hlc, hcm, hat⟩
    · have e2 : l2 = [] := List.eq_nil_of_length_eq_zero hn.symm
      subst e2
      rcases h2 with ⟨a2, c2, rfl, _⟩ | ⟨b', off', cap', rfl, hb', hlc', hcm', hat'⟩
      all_goals
        go_enter Tryz.func12, Tryz.ntmps12
        go_wp2
        go_rounds 1
        go_ret
        exact ⟨rfl, 0, rfl⟩
    · rcases h2 with ⟨a2, c2, rfl, rfl⟩ | ⟨b', off', cap', rfl, hb', hlc', hcm', hat'⟩
      · have e1 : l1 = [] := List.eq_nil_of_length_eq_zero hn
        subst e1
        go_enter Tryz.func12, Tryz.ntmps12
        go_wp2
        go_rounds 1
        go_ret
        exact ⟨rfl, 0, rfl⟩
      · obtain ⟨n, hn1⟩ : ∃ n, l1.length = n := ⟨_, rfl⟩
        have hn2 : l2.length = n := by omega
        have hnn : n ≤ 4194304 := by omega
        rw [hn1, hn2]
        clear hn
        go_enter Tryz.func12, Tryz.ntmps12
        go_wp2
        go_loopw [5] (fun i wr => ∃ (k m : Nat), k ≤ n ∧ i = .int .i64 k ∧ wr = w.drewN m ∧ Hid (∀ j, j < k → fn l1 j = fn l2 j)) (fun i _ => n - (intOf i).toNat)
        case atStart => exact ⟨0, 0, Nat.zero_le _, rfl, rfl, fun j hj => by omega⟩
        case round =>
          obtain ⟨k, m, hk, rfl, rfl, hsame⟩ := hrel
          by_cases hlt : k < n
          · have hc1 : w.cell? ⟨b, off + k, none⟩ = some (.int .i64 (fn l1 k)) := hat k (by omega)
            have hc2 : w.cell? ⟨b', off' + k, none⟩ = some (.int .i64 (fn l2 k)) := hat' k (by omega)
            have hki : (k : Int) < (n : Int) := by omega
            by_cases hq : fn l1 k = fn l2 k
            · have hq2 : (fn l1 k == fn l2 k) = true := by simpa using hq
              have HQ : Hid _ := hq
              clear hq
              go_wp2
              go_quiet (fail)
              go_wp2
              go_roundw
              case rel =>
                refine ⟨k + 1, _, by omega, by go_num, by first | rfl | rw [World.drewN_drewN], fun j hj => ?_⟩
                by_cases ej : j = k
                · subst ej; exact HQ.out
                · exact hsame.out j (by omega)
              case measure => simp only [intOf]; omega
            · have hq2 : (fn l1 k == fn l2 k) = false := by simpa using hq
              go_wp2
              go_quiet (fail)
              go_wp2
              go_ret
              exact ⟨retBool (eqBw_no (fun h => hq (by rw [h]))).symm, _, by first | rfl | rw [World.drewN_drewN]⟩
          · have e : k = n := by omega
            subst e
            go_wp2
            go_ret
            refine ⟨retBool ?_, _, rfl⟩
            rw [ext_fn (l := l1) (r := l2) (by omega) (fun j hj => hsame.out j (by omega)), eqBw_self]
  · have hfin := eqBw_no (a := l1) (b := l2) (fun h => hn (by rw [h]))
    have HF : Hid _ := hfin
    have hne : ((l1.length : Int) != (l2.length : Int)) = true := by simp; omega
    clear hfin
    rcases h1 with ⟨a1, c1, rfl, e1⟩ | ⟨b, off, cap, rfl, hb, hlc, hcm, hat⟩
    all_goals
      rcases h2 with ⟨a2, c2, rfl, e2⟩ | ⟨b', off', cap', rfl, hb', hlc', hcm', hat'⟩
    · exact absurd (by rw [e1, e2]) hn
    · have hz : ((0 : Int) != (l2.length : Int)) = true := by rw [e1] at hne; exact hne
      clear hne
      go_enter Tryz.func12, Tryz.ntmps12
      go_wp2
      go_ret
      exact ⟨retBool HF.out.symm, 0, rfl⟩
    · have hz : ((l1.length : Int) != (0 : Int)) = true := by rw [e2] at hne; exact hne
      clear hne
      go_enter Tryz.func12, Tryz.ntmps12
      go_wp2
      go_ret
      exact ⟨retBool HF.out.symm, 0, rfl⟩
    · go_enter Tryz.func12, Tryz.ntmps12
      go_wp2
      go_ret
      exact ⟨retBool HF.out.symm, 0, rfl⟩

theorem wcInts_yes (v1 v2 : Value) (l : List Int) (w : World) (h1 : Arg w v1 l) (h2 : Arg w v2 l) (hl : l.length ≤ 4194304) :
    Calls Tryz.prog 12 #[v1, v2] w fun e w' => e = .returned (.bool true) ∧ Below w.heap.size w w' := by
  refine (wcInts_any v1 v2 l l w h1 h2 hl).mono ?_
  rintro e w' ⟨rfl, n, rfl⟩
  exact ⟨retBool (eqBw_self l), below_draws w n⟩
end Go.Proofs.YtgojdlbidjnmmaaGreat
namespace Go.Proofs.YtgojdlbidjnmmaaGreat
open Go.ChangeShapes Go.WideShapes Go.ChangeAt Go.RowKit
set_option linter.unusedSimpArgs false

/-- What came in as a row of bytes can be read. -/
theorem bytesRow {w : World} {a : Option Addr} {len cap : Nat} {zs : List Int}
    (h : (a = none ∧ len = 0 ∧ cap = 0 ∧ zs = []) ∨ ∃ x, a = some x ∧ len ≤ cap ∧ cap ≤ maxLen ∧ zs.length = cap ∧ (∀ i, i < zs.length → w.cell? (x.add i) = some (.int .u8 (zs.getD i 0))) ∧ ∀ n ∈ zs, (Lit.int .u8 n).wf = true) :
    Bytes w a len cap := by
  rcases h with ⟨rfl, rfl, rfl, rfl⟩ | ⟨x, rfl, h1, h2, h3, h4, h5⟩
  · exact ⟨Nat.le_refl _, Nat.zero_le _, .inl rfl⟩
  · refine ⟨h1, h2, ?_⟩
    by_cases h0 : len = 0
    · exact .inl h0
    · right
      obtain ⟨b, off, spot⟩ := x
      have hc := h4 0 (by omega)
      have hspot : spot = none := by simpa [Addr.add] using World.cell?_spot hc
      subst hspot
      have hb := World.block_lt_of_cell? _ _ hc
      refine ⟨b, off, rfl, by simpa [Addr.add] using hb, fun j hj => ?_⟩
      have h6 := h4 j (by omega)
      have hadd : (⟨b, off, none⟩ : Addr).add j = ⟨b, off + j, none⟩ := by unfold Addr.add; split <;> simp_all
      rw [hadd] at h6
      refine ⟨_, h6, ?_⟩
      have h7 := h5 (zs.getD j 0) (by simp [List.getD, show j < zs.length by omega])
      exact bounds_u8 h7
end Go.Proofs.YtgojdlbidjnmmaaGreat
namespace Go.Proofs.YtgojdlbidjnmmaaGreat
open Go.ChangeShapes Go.WideShapes Go.ChangeAt Go.RowKit Go.Deep
set_option linter.unusedSimpArgs false
set_option linter.unusedVariables false

/-- A line's levels are those of all, or that of the whole; and what ends it is empty. -/
theorem line_is {l : List Int} {mt : Nat → Nat} {base : Int} {n : Nat} (h : LevTxt l mt base n) {f m : Nat} (hfm : f + m ≤ n) {k : Nat} (hk : k < m) :
    (fn (llF (fun j => fn l (f + j)) (fun j => fn (levsF l mt base) (f + j)) m base) k = fn (levsF l mt base) (f + k) ∨ (10 ≤ cl l (f + k) ∧ fn (llF (fun j => fn l (f + j)) (fun j => fn (levsF l mt base) (f + j)) m base) k = base)) ∧ (k + 1 = m → fn l (f + k) = 32 → fn (llF (fun j => fn l (f + j)) (fun j => fn (levsF l mt base) (f + j)) m base) k = base) := by
  have hT := levF_tells h (j := f + k) (by omega)
  have e1 : fn (llF (fun j => fn l (f + j)) (fun j => fn (levsF l mt base) (f + j)) m base) k = llA (fun j => fn l (f + j)) (fun j => fn (levsF l mt base) (f + j)) m base k := fn_mkL hk
  rw [e1]
  have hst := emT_step (x := fun j => fn l (f + j)) (lev := fun j => fn (levsF l mt base) (f + j)) hk
  unfold llA
  constructor
  · by_cases hq : 0 ≤ fn (levsF l mt base) (f + k) ∧ emT (fun j => fn l (f + j)) (fun j => fn (levsF l mt base) (f + j)) m (m - k) = true
    · rw [if_pos hq]
      refine .inr ⟨?_, rfl⟩
      obtain ⟨h0, he⟩ := hq
      rw [if_neg (by omega), he] at hst
      have h11 := bidi_11 (fn l (f + k))
      have h12 := bidi_12 (fn l (f + k))
      unfold cl
      by_cases hE : endB (fn l (f + k)) = true
      · have := of_decide_eq_true hE
        rcases this with q | q
        · rw [q, bidi_nl]; decide
        · omega
      · have hE2 : endB (fn l (f + k)) = false := by simpa using hE
        rw [hE2] at hst
        have hG : goesB (fn l (f + k)) = true := by
          cases hg : goesB (fn l (f + k)) with
          | true => rfl
          | false => rw [hg] at hst; simp at hst
        have := of_decide_eq_true hG
        rcases this with q | q
        · have := h12.2 q; omega
        · omega
    · rw [if_neg hq]; exact .inl rfl
  · intro hk1 h32
    have hc : bidi (fn l (f + k)) = 12 := (bidi_12 _).2 h32
    have h0 : 0 ≤ fn (levsF l mt base) (f + k) := by
      rcases Int.lt_or_le (fn (levsF l mt base) (f + k)) 0 with q | q
      · have := hT.1 q
        unfold tellsB cl at this
        have := of_decide_eq_true this
        omega
      · exact q
    rw [if_neg (by omega)] at hst
    have hg : goesB (fn l (f + k)) = true := decide_eq_true (.inl h32)
    have he : emT (fun j => fn l (f + j)) (fun j => fn (levsF l mt base) (f + j)) m (m - k) = true := by
      rw [hst, show m - (k + 1) = 0 by omega, hg]
      simp [emT]
    exact if_pos ⟨h0, he⟩

set_option maxRecDepth 10000 in
set_option maxHeartbeats 8000000 in
theorem lineLaw (a : Option Addr) (len cap : Nat) (w : World) (h : Bytes w a len cap) :
    Calls Tryz.prog 5 #[.slice a len cap] w fun e w' => e = .returned (.bool true) ∧ Below w.heap.size w w' := by
  by_cases hbig : 1048576 < len
  · have hbig2 : (1048576 : Int) < (len : Int) := by omega
    go_enter Tryz.func5, Tryz.ntmps5
    go_wp2_with fail
    go_ret
    exact ⟨rfl, Below.refl _ _⟩
  · have hl2 : (len : Int) ≤ 1048576 := by omega
    go_enter Tryz.func5, Tryz.ntmps5
    go_wp2_with fail
    refine (drawLine a len cap w h).mono ?_
    rintro e w1 ⟨⟨v, l, b, f0, t0, rfl, o1, hlen, hfl, hft, htl⟩, b1⟩
    obtain ⟨av, n, cv, rfl, hn⟩ := o1.slicZ
    have HN : Hid (l.length = n) := hn
    have hn81 : n ≤ 81 := by omega
    have HL6 : Hid (l.length ≤ 1048576) := show l.length ≤ 1048576 by omega
    obtain ⟨mt, hmt⟩ := mt_exists (cl l) l.length
    have HMT : Hid (MateFn (cl l) l.length mt) := hmt
    have hxl := lineLR_le l mt b (f0 : Int) (t0 : Int)
    obtain ⟨X, hX⟩ : ∃ X, lineLR l mt b (f0 : Int) (t0 : Int) = X := ⟨_, rfl⟩
    rw [hX] at hxl
    have HX : Hid (lineLR l mt b (f0 : Int) (t0 : Int) = X) := hX
    have HX4 : Hid (X.length ≤ 4194304) := show X.length ≤ 4194304 by omega
    rw [hn] at hfl htl
    clear hn hX hmt
    go_wp2_with fail
    refine (implLine _ l mt b _ _ _ av cv (by rw [HN.out]) o1.arg HL6.out HMT).mono ?_
    rintro e w2 ⟨⟨vx, rfl, ox2⟩, b2⟩
    rw [HX.out] at ox2
    have o2 := o1.below b2
    have B2 := bstep b1 b2
    go_wp2_with fail
    refine (specLine _ l mt b _ _ _ av cv (by rw [HN.out]) o2.arg HL6.out HMT).mono ?_
    rintro e w3 ⟨⟨v3, rfl, p3⟩, b3⟩
    rw [HX.out] at p3
    have o3 := o2.below b3
    have ox3 := ox2.below b3
    have B3 := bstep B2 b3
    go_wp2_with fail
    refine (wcInts_yes _ _ X _ ox3.arg p3.arg HX4.out).mono ?_
    rintro e w4 ⟨rfl, b4⟩
    have o4 := o3.below b4
    have ox4 := ox3.below b4
    have B4 := bstep B3 b4
    clear o1 o2 o3 ox2 ox3 p3 B2 B3 b1 b2 b3 b4
    obtain ⟨ax, nx, cx, rfl, hnx⟩ := ox4.slicZ
    have HNX : Hid (X.length = nx) := hnx
    clear hnx hxl
    by_cases hz : nx = 0
    · subst hz
      go_wp2_with fail
      refine (specLine _ l mt b _ _ _ av cv (by rw [HN.out]) o4.arg HL6.out HMT).mono ?_
      rintro e w5 ⟨⟨v5, rfl, p5⟩, b5⟩
      rw [HX.out] at p5
      go_wp2_with fail
      refine (wcInts_yes _ _ X _ (ox4.below b5).arg p5.arg HX4.out).mono ?_
      rintro e w6 ⟨rfl, b6⟩
      go_wp2_with fail
      go_ret
      exact ⟨rfl, bstep (bstep B4 b5) b6⟩
    · have hok : okT l b = true ∧ 0 ≤ (f0 : Int) ∧ (f0 : Int) ≤ (t0 : Int) ∧ (t0 : Int) ≤ l.length := by
        by_cases h : okT l b = true ∧ 0 ≤ (f0 : Int) ∧ (f0 : Int) ≤ (t0 : Int) ∧ (t0 : Int) ≤ l.length
        · exact h
        · exfalso
          have hx := HX.out
          rw [lineLR_no h] at hx
          have := HNX.out
          rw [← hx] at this
          simp at this
          omega
      have hXF : X = lineLv l mt b f0 t0 := by rw [← HX.out, lineLR_yes hok]; simp
      have htn : t0 ≤ n := by have := hok.2.2.2; have := HN.out; omega
      obtain ⟨m, hm⟩ : ∃ m, t0 - f0 = m := ⟨_, rfl⟩
      have hXm : nx = m := by rw [← HNX.out, hXF]; unfold lineLv; rw [llF_len, hm]
      subst hXm
      have HTX := levTxt hok.1 HMT.out
      rw [HN.out] at HTX
      obtain ⟨A, hA⟩ : ∃ A, levsF l mt b = A := ⟨_, rfl⟩
      have hAl : A.length = n := by rw [← hA, levsF_len, HN.out]
      have HIS : Hid (∀ k, k < nx → (fn X k = fn A (f0 + k) ∨ (10 ≤ cl l (f0 + k) ∧ fn X k = b)) ∧ (k + 1 = nx → fn l (f0 + k) = 32 → fn X k = b)) := fun k hk => by
        rw [hXF, ← hA]; unfold lineLv; rw [hm]; exact line_is HTX (by omega) hk
      have HAR : Hid (levsR l mt b = A) := by unfold Hid; rw [← hA]; exact if_pos hok.1
      have HAL : Hid (A.length = n) := hAl
      have hmt0 : (t0 : Int) - (f0 : Int) = (nx : Int) := by omega
      obtain ⟨q, hq⟩ : ∃ q, f0 + q + 1 = t0 ∧ q + 1 = nx := ⟨nx - 1, by omega, by omega⟩
      have hti : (t0 : Int) - 1 = ((f0 + q : Nat) : Int) := by omega
      have hxi : (nx : Int) - 1 = (q : Int) := by omega
      have HQ : Hid _ := hq
      clear hok hXF HTX hA hAl hm
      have hnz : ((nx : Int) == 0) = false := by simp; omega
      go_wp2_with fail
      refine (implLevels _ l mt b _ av cv (by rw [HN.out]) o4.arg HL6.out HMT).mono ?_
      rintro e w5 ⟨⟨va, rfl, oa5⟩, b5⟩
      rw [HAR.out] at oa5
      have o5 := o4.below b5
      have ox5 := ox4.below b5
      have B5 := bstep B4 b5
      obtain ⟨ga, ca, ea, _⟩ := OwnI.form1 oa5 (fun e => by have := HAL.out; rw [e] at this; simp at this; omega)
      rw [HAL.out] at ea
      subst ea
      rcases o5.forms with ⟨e, _⟩ | ⟨gl, cl', e, _, hgl, _, _, _⟩
      · simp only [Value.slice.injEq] at e; omega
      simp only [Value.slice.injEq] at e
      obtain ⟨rfl, -, rfl⟩ := e
      rcases ox5.forms with ⟨e, _⟩ | ⟨gx, cxx, e, _, hgx, _, _, _⟩
      · simp only [Value.slice.injEq] at e; omega
      simp only [Value.slice.injEq] at e
      obtain ⟨rfl, -, rfl⟩ := e
      have HO5 : Hid (∀ W, Below w5.heap.size w5 W → ∀ k, k < nx → W.cell? ⟨gl, f0 + k, none⟩ = some (.int .i64 (fn l (f0 + k))) ∧ W.cell? ⟨gx, k, none⟩ = some (.int .i64 (fn X k)) ∧ W.cell? ⟨ga, f0 + k, none⟩ = some (.int .i64 (fn A (f0 + k)))) := fun W hW k hk => ⟨(o5.below hW).cellN _ (by first | omega | (have := HN.out; omega)), (ox5.below hW).cellN k (by first | exact hk | (have := HNX.out; omega)), (oa5.below hW).cellN _ (by first | omega | (have := HAL.out; omega))⟩
      have HB5 : Hid (Below w.heap.size w w5) := B5
      clear o4 ox4 o5 ox5 oa5 B4 B5 b5
      go_wp2_with fail
      go_loopw [9] (fun i wr => ∃ k : Nat, k ≤ nx ∧ i = .int .i64 k ∧ Hid (Below w5.heap.size w5 wr)) (fun i _ => nx - (intOf i).toNat)
      case atStart => exact ⟨0, Nat.zero_le _, rfl, Below.refl _ _⟩
      case round =>
        obtain ⟨k, hk, rfl, hbel⟩ := hrel
        rename World => wr
        by_cases hlt : k < nx
        · obtain ⟨cl1, cx1, ca1⟩ := HO5.out _ hbel.out k hlt
          have his := (HIS.out k hlt).1
          obtain ⟨p, hp⟩ : ∃ p, f0 + k = p := ⟨_, rfl⟩
          have hpi : (f0 : Int) + (k : Int) = (p : Int) := by omega
          have hpn : (p : Int) < (n : Int) := by omega
          have hki : (k : Int) < (nx : Int) := by omega
          rw [hp] at cl1 ca1 his
          obtain ⟨R, hR⟩ : ∃ R, fn l p = R := ⟨_, rfl⟩
          obtain ⟨x, hx⟩ : ∃ x, fn X k = x := ⟨_, rfl⟩
          obtain ⟨y, hy⟩ : ∃ y, fn A p = y := ⟨_, rfl⟩
          obtain ⟨c, hc⟩ : ∃ c, bidi R = c := ⟨_, rfl⟩
          have hcl : cl l p = c := by unfold cl; rw [hR, hc]
          rw [hR] at cl1
          rw [hx] at cx1 his
          rw [hy] at ca1 his
          rw [hcl] at his
          have HBI : Hid (∀ W, Calls Tryz.prog 10 #[.int .i64 R] W fun e w' => e = .returned (.int .i64 c) ∧ Below W.heap.size W w') := fun W => by rw [← hc]; exact specBidi R W
          have HO6 : Hid (∀ W, Below wr.heap.size wr W → W.cell? ⟨gl, p, none⟩ = some (.int .i64 R) ∧ W.cell? ⟨gx, k, none⟩ = some (.int .i64 x) ∧ W.cell? ⟨ga, p, none⟩ = some (.int .i64 y)) := fun W hW => by
            have := HO5.out W (bstep hbel.out hW) k hlt
            rw [hp, hR, hx, hy] at this; exact this
          have HNL : Hid (R = 10 → c = 13) := fun e => by rw [← hc, e]; exact bidi_nl
          clear hR hx hy hc hcl hp
          by_cases h10 : c < 10
          · have hxy : x = y := by rcases his with e | ⟨e, _⟩; exact e; omega
            have hR10 : (R != 10) = true := by
              have := HNL.out
              simp only [bne_iff_ne, ne_eq]
              intro e; have := this e; omega
            subst hxy
            clear his
            go_wp2_with (go_at_call 10; refine (HBI.out _).mono ?_; rintro e w6 ⟨rfl, b6⟩; obtain ⟨d1, d2, d3⟩ := HO6.out _ b6; have B6 : Hid (Below wr.heap.size wr w6) := b6; clear b6)
            go_quiet (fail)
            go_wp2_with fail
            go_roundw
            case rel => exact ⟨k + 1, by omega, by go_num, hbel.out.trans ((B6.out.trans ((below_draws _ _).mono B6.out.size)).mono hbel.out.size)⟩
            case measure => simp only [intOf]; omega
          · have hcge : 10 ≤ c := by omega
            have hd10 : decide (c < 10) = false := decide_eq_false h10
            by_cases hxy : x = y
            · subst hxy
              clear his
              go_wp2_with (go_at_call 10; refine (HBI.out _).mono ?_; rintro e w6 ⟨rfl, b6⟩; obtain ⟨d1, d2, d3⟩ := HO6.out _ b6; have B6 : Hid (Below wr.heap.size wr w6) := b6; clear b6)
              go_quiet (fail)
              go_wp2_with fail
              go_roundw
              case rel => exact ⟨k + 1, by omega, by go_num, hbel.out.trans ((B6.out.trans ((below_draws _ _).mono B6.out.size)).mono hbel.out.size)⟩
              case measure => simp only [intOf]; omega
            · have hxb : x = b := by rcases his with e | ⟨_, e⟩; exact absurd e hxy; exact e
              subst hxb
              have hxyb : (x != y) = true := by simpa using hxy
              clear his
              go_wp2_with (go_at_call 10; refine (HBI.out _).mono ?_; rintro e w6 ⟨rfl, b6⟩; obtain ⟨d1, d2, d3⟩ := HO6.out _ b6; have B6 : Hid (Below wr.heap.size wr w6) := b6; clear b6)
              go_quiet (fail)
              go_wp2_with fail
              go_roundw
              case rel => exact ⟨k + 1, by omega, by go_num, hbel.out.trans ((B6.out.trans ((below_draws _ _).mono B6.out.size)).mono hbel.out.size)⟩
              case measure => simp only [intOf]; omega
        · have e : k = nx := by omega
          subst e
          obtain ⟨cl1, cx1, _⟩ := HO5.out _ hbel.out q (by have := HQ.out; omega)
          have his := (HIS.out q (by have := HQ.out; omega)).2 (by have := HQ.out; omega)
          obtain ⟨p, hp⟩ : ∃ p, f0 + q = p := ⟨_, rfl⟩
          rw [hp] at cl1 his hti
          have hpn : (p : Int) < (n : Int) := by have := HQ.out; omega
          have hqk : (q : Int) < (k : Int) := by have := HQ.out; omega
          obtain ⟨R, hR⟩ : ∃ R, fn l p = R := ⟨_, rfl⟩
          obtain ⟨x, hx⟩ : ∃ x, fn X q = x := ⟨_, rfl⟩
          rw [hR] at cl1 his
          rw [hx] at cx1 his
          clear hR hx hp
          by_cases h32 : R = 32
          · have hxb := his h32
            subst h32
            subst hxb
            clear his
            go_wp2_with fail
            go_ret
            exact ⟨rfl, bstep HB5.out hbel.out⟩
          · have hR32 : (R != 32) = true := by simpa using h32
            clear his
            go_wp2_with fail
            go_ret
            exact ⟨rfl, bstep HB5.out hbel.out⟩
end Go.Proofs.YtgojdlbidjnmmaaGreat
