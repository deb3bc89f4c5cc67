import Derived.Test.YtgojdlbidjnmmabGreatPk25
import Derived.Test.YtgojdlbidjnmmabGreatPk21
import Derived.Test.YtgojdlbidjnmmabGreatPk4
import Derived.Test.YtgojdlbidjnmmabGreatPk24
import Derived.Test.YtgojdlbidjnmmabGreatPk1
namespace Go.Proofs.YtgojdlbidjnmmabGreat
set_option linter.unusedSimpArgs false
set_option linter.unusedVariables false
theorem lineLR_no {l : List Int} {mt : Nat → Nat} {base f t : Int} (h : ¬ (okT l base = true ∧ 0 ≤ f ∧ f ≤ t ∧ t ≤ l.length)) : lineLR l mt base f t = [] := if_neg h
theorem lineLR_yes {l : List Int} {mt : Nat → Nat} {base f t : Int} (h : okT l base = true ∧ 0 ≤ f ∧ f ≤ t ∧ t ≤ l.length) : lineLR l mt base f t = lineLv l mt base f.toNat t.toNat := if_pos h
theorem drop_take_fn {l : List Int} {f m j : Nat} (h : j < m) (hl : f + m ≤ l.length) : fn ((l.drop f).take m) j = fn l (f + j) := by
  simp [fn, h, show f + j < l.length by omega, show j < l.length - f by omega]

theorem lineLR_le (l : List Int) (mt : Nat → Nat) (base f t : Int) : (lineLR l mt base f t).length ≤ l.length := by
  unfold lineLR; split
  · rename_i h
    unfold lineLv; rw [llF_len]; omega
  · simp
end Go.Proofs.YtgojdlbidjnmmabGreat
namespace Go.Proofs.YtgojdlbidjnmmabGreat
open Go.ChangeShapes Go.WideShapes Go.ChangeAt Go.RowKit Go.Deep
set_option linter.unusedSimpArgs false
set_option linter.unusedVariables false

set_option maxHeartbeats 2000000 in
theorem implEnds (r : Int) (w : World) (q : Bool) (hq : Hid (endB r = q)) : Calls Tryz.prog 25 #[.int .i64 r] w fun e w' => e = .returned (.bool q) ∧ Below w.heap.size w w' := by
  by_cases h : r = 10
  · subst h
    have HQ : Hid (true = q) := by unfold Hid; rw [← hq.out]; simp [endB]
    clear hq
    go_enter Tryz.func25, Tryz.ntmps25
    go_wp2_with fail
    go_ret
    exact ⟨retBool HQ.out, Below.refl _ _⟩
  · have hb : (r == 10) = false := by simpa using h
    obtain ⟨c, hc⟩ : ∃ c, bidi r = c := ⟨_, rfl⟩
    have HC : Hid _ := hc
    by_cases h2 : c = 11
    · subst h2
      have HQ : Hid (true = q) := by unfold Hid; rw [← hq.out]; simp [endB, hc]
      clear hq hc
      go_enter Tryz.func25, Tryz.ntmps25
      go_wp2_with (go_at_call 48; refine (implBidi _ _).mono ?_; rintro e w1 ⟨rfl, b1⟩; rw [HC.out])
      go_ret
      exact ⟨retBool HQ.out, b1⟩
    · have HQ : Hid (false = q) := by unfold Hid; rw [← hq.out]; simp [endB, hc, h, h2]
      have hb2 : (c == 11) = false := by simpa using h2
      clear hq hc
      go_enter Tryz.func25, Tryz.ntmps25
      go_wp2_with (go_at_call 48; refine (implBidi _ _).mono ?_; rintro e w1 ⟨rfl, b1⟩; rw [HC.out])
      go_ret
      exact ⟨retBool HQ.out, b1⟩
set_option maxHeartbeats 2000000 in
theorem implGoes (r : Int) (w : World) (q : Bool) (hq : Hid (goesB r = q)) : Calls Tryz.prog 26 #[.int .i64 r] w fun e w' => e = .returned (.bool q) ∧ Below w.heap.size w w' := by
  by_cases h : r = 32
  · subst h
    have HQ : Hid (true = q) := by unfold Hid; rw [← hq.out]; simp [goesB]
    clear hq
    go_enter Tryz.func26, Tryz.ntmps26
    go_wp2_with fail
    go_ret
    exact ⟨retBool HQ.out, Below.refl _ _⟩
  · have hb : (r == 32) = false := by simpa using h
    obtain ⟨c, hc⟩ : ∃ c, bidi r = c := ⟨_, rfl⟩
    have HC : Hid _ := hc
    by_cases h2 : 19 ≤ c
    · have HQ : Hid (true = q) := by unfold Hid; rw [← hq.out]; simp [goesB, hc, h2]
      clear hq hc
      go_enter Tryz.func26, Tryz.ntmps26
      go_wp2_with (go_at_call 48; refine (implBidi _ _).mono ?_; rintro e w1 ⟨rfl, b1⟩; rw [HC.out])
      go_ret
      exact ⟨retBool HQ.out, b1⟩
    · have HQ : Hid (false = q) := by unfold Hid; rw [← hq.out]; simp [goesB, hc, h, h2]
      clear hq hc
      go_enter Tryz.func26, Tryz.ntmps26
      go_wp2_with (go_at_call 48; refine (implBidi _ _).mono ?_; rintro e w1 ⟨rfl, b1⟩; rw [HC.out])
      go_ret
      exact ⟨retBool (by rw [← HQ.out]; simp; omega), b1⟩
set_option maxHeartbeats 2000000 in
theorem implThere (a : Option Addr) (n cap : Nat) (f t : Int) (w : World) (q : Bool) (hn : n ≤ 1048576) (hq : Hid (decide (0 ≤ f ∧ f ≤ t ∧ t ≤ n) = q)) : Calls Tryz.prog 22 #[.slice a n cap, .int .i64 f, .int .i64 t] w fun e w' => e = .returned (.bool q) ∧ w' = w := by
  by_cases h1 : 0 ≤ f
  · by_cases h2 : f ≤ t
    · by_cases h3 : t ≤ (n : Int)
      · have HQ : Hid (true = q) := by unfold Hid; rw [← hq.out]; simp [h1, h2, h3]
        clear hq
        go_enter Tryz.func22, Tryz.ntmps22
        go_wp2_with fail
        go_ret
        exact ⟨retBool HQ.out, rfl⟩
      · have HQ : Hid (false = q) := by unfold Hid; rw [← hq.out]; simp [h3]
        clear hq
        go_enter Tryz.func22, Tryz.ntmps22
        go_wp2_with fail
        go_ret
        exact ⟨retBool HQ.out, rfl⟩
    · have HQ : Hid (false = q) := by unfold Hid; rw [← hq.out]; simp [h2]
      clear hq
      go_enter Tryz.func22, Tryz.ntmps22
      go_wp2_with fail
      go_ret
      exact ⟨retBool HQ.out, rfl⟩
  · have HQ : Hid (false = q) := by unfold Hid; rw [← hq.out]; simp [h1]
    clear hq
    go_enter Tryz.func22, Tryz.ntmps22
    go_wp2_with fail
    go_ret
    exact ⟨retBool HQ.out, rfl⟩
set_option maxRecDepth 10000 in
set_option maxHeartbeats 8000000 in
theorem implLine (v : Value) (l : List Int) (mt : Nat → Nat) (base f t : Int) (w : World) (a : Option Addr) (cap : Nat) (hva : v = .slice a l.length cap) (hv : Arg w v l) (hl : l.length ≤ 1048576) (hmt : Hid (MateFn (cl l) l.length mt)) :
    Calls Tryz.prog 13 #[v, .int .i64 base, .int .i64 f, .int .i64 t] w fun e w' => (∃ v', e = .returned v' ∧ OwnI w' w.heap.size v' (lineLR l mt base f t)) ∧ Below w.heap.size w w' := by
  subst hva
  have HTH : Hid (∀ V q, decide (0 ≤ f ∧ f ≤ t ∧ t ≤ (l.length : Int)) = q → Calls Tryz.prog 22 #[.slice a l.length cap, .int .i64 f, .int .i64 t] V fun e w' => e = .returned (.bool q) ∧ w' = V) := fun V q h => implThere a l.length cap f t V q hl h
  by_cases hft : 0 ≤ f ∧ f ≤ t ∧ t ≤ (l.length : Int)
  · have HD : Hid (decide (0 ≤ f ∧ f ≤ t ∧ t ≤ (l.length : Int)) = true) := decide_eq_true hft
    have hLV := implLevels (.slice a l.length cap) l mt base w a cap rfl hv hl hmt
    have HLV : Hid _ := hLV
    obtain ⟨n, hn⟩ : ∃ n, l.length = n := ⟨_, rfl⟩
    have HN : Hid _ := hn
    obtain ⟨q, hq⟩ : ∃ q, okT l base = q := ⟨_, rfl⟩
    have HQ : Hid (okT l base = q) := hq
    by_cases hz : levsR l mt base = []
    · -- nothing is read
      have hR : lineLR l mt base f t = [] := by
        by_cases e : okT l base = true
        · have h2 : levsR l mt base = levsF l mt base := if_pos e
          have h3 := levsF_len l mt base
          rw [← h2, hz] at h3
          rw [lineLR_yes ⟨e, hft⟩]
          apply List.eq_nil_of_length_eq_zero
          unfold lineLv; rw [llF_len]
          have h4 := hft.2.2
          rw [← h3] at h4
          simp only [List.length_nil] at h4
          omega
        · exact lineLR_no (fun h => e h.1)
      have HR : Hid _ := hR
      have HZ : Hid _ := hz
      rw [hn] at HTH HD HLV ⊢
      clear hLV hR hz hv hmt hq hft hn
      go_enter Tryz.func13, Tryz.ntmps13
      go_wp2_with (go_at_call 22; refine (HTH.out _ true HD.out).mono ?_; rintro e w1 ⟨rfl, hw1⟩; rw [hw1]; clear hw1 w1)
      refine Calls.mono HLV.out ?_
      rintro e w2 ⟨⟨v2, rfl, o2⟩, b2⟩
      rw [HZ.out] at o2
      rcases o2.forms with ⟨rfl, _⟩ | ⟨g, c, rfl, _⟩
      · go_wp2_with fail
        go_ret
        exact ⟨⟨_, rfl, by rw [HR.out]; exact OwnI.nil _ _⟩, b2⟩
      · go_wp2_with fail
        go_ret
        exact ⟨⟨_, rfl, by rw [HR.out]; exact OwnI.nil _ _⟩, b2⟩
    · have e : okT l base = true := Decidable.byContradiction fun e => hz (by unfold levsR; rw [if_neg e])
      have hrl : levsR l mt base = levsF l mt base := if_pos e
      have hA3 := levsF_len l mt base
      have hok80 := (okT_out e).2.2
      have hlx := levTxt e hmt.out
      have hR := lineLR_yes (mt := mt) ⟨e, hft⟩
      obtain ⟨f0, hf0⟩ : ∃ f0, f.toNat = f0 := ⟨_, rfl⟩
      obtain ⟨m, hm⟩ : ∃ m, t.toNat - f.toNat = m := ⟨_, rfl⟩
      have hfe : f = (f0 : Int) := by omega
      have hte : t = ((f0 + m : Nat) : Int) := by omega
      have hfm : f0 + m ≤ n := by omega
      rw [hR]
      unfold lineLv
      rw [hm, hf0]
      rw [hrl] at HLV hz
      rw [hn] at hA3 hok80
      subst hfe hte
      obtain ⟨A, hA⟩ : ∃ A, levsF l mt base = A := ⟨_, rfl⟩
      rw [hA] at HLV hz hA3 ⊢
      have hnl : 0 < n := by rw [← hA3]; exact List.length_pos_iff.2 hz
      obtain ⟨bl, ol, e1, hbl, hat⟩ : ∃ bl ol, a = some ⟨bl, ol, none⟩ ∧ bl < w.heap.size ∧ At w bl ol l := by
        rcases hv with ⟨a0, cap0, e1, e2⟩ | ⟨b, off, cap', e1, hb, hlc, hcm, hat⟩
        · rw [e2] at hn; simp at hn; omega
        · simp only [Value.slice.injEq] at e1
          exact ⟨b, off, e1.1, hb, hat⟩
      subst e1
      have HAT : Hid (At w bl ol l) := hat
      have HA3 : Hid (A.length = n) := hA3
      obtain ⟨x, hx⟩ : ∃ x : Nat → Int, (fun j => fn l (f0 + j)) = x := ⟨_, rfl⟩
      obtain ⟨lev, hlev⟩ : ∃ lev : Nat → Int, (fun j => fn A (f0 + j)) = lev := ⟨_, rfl⟩
      have HX : Hid (∀ V, Below w.heap.size w V → ∀ j, j < m → V.cell? ⟨bl, ol + (f0 + j), none⟩ = some (.int .i64 (x j))) := fun V hV j hj => by
        rw [← hx]; exact (HAT.out.below hV hbl) (f0 + j) (by rw [HN.out]; omega)
      have HLEV : Hid (∀ j, lev j = fn A (f0 + j)) := fun j => by rw [← hlev]
      rw [hx, hlev]
      rw [hn] at HTH HD HLV ⊢
      clear hLV hz hv hmt hq hR hrl hA hx hlev hf0 hm hA3 hat hlx e hn hft
      by_cases hm0 : m = 0
      · subst hm0
        have hE : llF x lev 0 base = [] := List.eq_nil_of_length_eq_zero (llF_len _ _ _ _)
        rw [hE]
        clear hE
        go_enter Tryz.func13, Tryz.ntmps13
        go_wp2_with (go_at_call 22; refine (HTH.out _ true HD.out).mono ?_; rintro e w1 ⟨rfl, hw1⟩; rw [hw1]; clear hw1 w1)
        refine Calls.mono HLV.out ?_
        rintro e w2 ⟨⟨v2, rfl, o2⟩, b2⟩
        obtain ⟨g2, c2, e2, hc2⟩ := OwnI.form1 o2 (fun e => by have := HA3.out; rw [e] at this; simp at this; omega)
        rw [HA3.out] at e2 hc2
        subst e2
        have HB2 : Hid (Below w.heap.size w w2) := b2
        have hnb : ((n : Int) == 0) = false := by simp; omega
        have hsz2 := b2.size
        clear o2 b2
        go_wp2_with fail
        all_goals
          refine (clone_any _ [] _ (.inl ⟨_, _, rfl, rfl⟩) (by simp)).mono ?_
          rintro e w3 ⟨⟨v3, rfl, o3⟩, b3⟩
          have HB3 : Hid (Below w.heap.size w w3) := bstep HB2.out b3
          have O3 : Hid (OwnI w3 w.heap.size v3 []) := o3.mono hsz2
          rcases o3.forms with ⟨rfl, _⟩ | ⟨g3, c3, rfl, _⟩
          all_goals
            clear o3 b3
            go_wp2_with fail
            go_rounds 1
            go_ret
            exact ⟨⟨_, rfl, O3.out⟩, HB3.out⟩
      · have hmp : 0 < m := by omega
        have hLLl : ((A.drop f0).take m).length = m := by simp; have := HA3.out; omega
        have hLLf : ∀ j, j < m → lev j = fn ((A.drop f0).take m) j := fun j hj => by rw [HLEV.out, drop_take_fn hj (by have := HA3.out; omega)]
        have HP0 : Hid (llP x lev m base m = (A.drop f0).take m) := llP_start hLLl hLLf
        have HLL : Hid (((A.drop f0).take m).length = m ∧ ∀ j, j < m → lev j = fn ((A.drop f0).take m) j) := ⟨hLLl, hLLf⟩
        clear hLLl hLLf
        go_enter Tryz.func13, Tryz.ntmps13
        go_wp2_with (go_at_call 22; refine (HTH.out _ true HD.out).mono ?_; rintro e w1 ⟨rfl, hw1⟩; rw [hw1]; clear hw1 w1)
        refine Calls.mono HLV.out ?_
        rintro e w2 ⟨⟨v2, rfl, o2⟩, b2⟩
        obtain ⟨g2, c2, e2, hc2⟩ := OwnI.form1 o2 (fun e => by have := HA3.out; rw [e] at this; simp at this; omega)
        rw [HA3.out] at e2 hc2
        subst e2
        have O2 : Hid (OwnI w2 w.heap.size (.slice (some ⟨g2, 0, none⟩) n c2) A) := o2
        have HB2 : Hid (Below w.heap.size w w2) := b2
        have hg2 := (o2.lt g2 rfl).2
        have hnb : ((n : Int) == 0) = false := by simp; omega
        have hfc : f0 + m ≤ c2 := by omega
        have hcf : ¬ c2 = f0 := by omega
        have hsz2 := b2.size
        clear o2 b2
        go_wp2_with fail
        refine (clone_row g2 f0 m (c2 - f0) ((A.drop f0).take m) w2 HLL.out.1 (by omega) (fun j hj => ?_) hg2).mono ?_
        · have hjm : j < m := by rw [HLL.out.1] at hj; exact hj
          rw [← HLL.out.2 j hjm, HLEV.out]
          have := O2.out.cellN (f0 + j) (by have := HA3.out; omega)
          exact this
        rintro e w3 ⟨⟨v3, rfl, o3⟩, b3⟩
        obtain ⟨g3, c3, e3, hc3⟩ := OwnI.form1 o3 (fun e => by have := HLL.out.1; rw [e] at this; simp at this; omega)
        rw [HLL.out.1] at e3 hc3
        subst e3
        have O3 : Hid (OwnI w3 w2.heap.size (.slice (some ⟨g3, 0, none⟩) m c3) (llP x lev m base m)) := by unfold Hid; rw [HP0.out]; exact o3
        have HB3 : Hid (Below w.heap.size w w3) := bstep HB2.out b3
        clear o3 b3
        go_wp2_with fail
        go_loopw [11, 12] (fun e11 e12 wr => ∃ (k : Nat) (b0 : Bool), e11 = .bool b0 ∧ Hid (emT x lev m (m - k) = b0) ∧ e12 = .int .i64 ((k : Int) - 1) ∧ k ≤ m ∧ Hid (OwnI wr w2.heap.size (.slice (some ⟨g3, 0, none⟩) m c3) (llP x lev m base k)) ∧ Hid (Below w.heap.size w wr)) (fun _ e12 _ => (intOf e12 + 1).toNat)
        case atStart => exact ⟨m, true, rfl, by unfold Hid; rw [Nat.sub_self]; rfl, by first | rfl | (congr 1), Nat.le_refl _, O3.out, HB3.out⟩
        case round =>
          obtain ⟨k, b0, rfl, hem, rfl, hk, hO, hB⟩ := hrel
          rename World => wr
          cases k with
          | zero =>
            have e : ((0 : Nat) : Int) - 1 = -1 := rfl
            rw [e]
            clear e
            go_wp2_with fail
            go_ret
            exact ⟨⟨_, rfl, by rw [← llP_zero]; exact hO.out.mono hsz2⟩, hB.out⟩
          | succ p =>
            have e : ((p + 1 : Nat) : Int) - 1 = (p : Int) := by omega
            rw [e]
            clear e
            have hpm : p < m := by omega
            have hpi : (p : Int) < (m : Int) := by omega
            have c1 := hO.out.cellN p (by omega)
            have f1 : wr.frozen? ⟨g3, p, none⟩ = false := hO.out.frozenN p
            rw [fn_llP hpm, if_neg (by omega)] at c1
            have hst := emT_step (x := x) (lev := lev) hpm
            rw [hem.out] at hst
            obtain ⟨lv, hlv⟩ : ∃ lv, lev p = lv := ⟨_, rfl⟩
            have hla : llA x lev m base p = if 0 ≤ lev p ∧ emT x lev m (m - p) = true then base else lev p := rfl
            rw [hlv] at c1 hst hla
            by_cases hneg : lv < 0
            · have HNX : Hid (emT x lev m (m - p) = b0) := by unfold Hid; rw [hst, if_pos hneg]
              have HPK : Hid (llP x lev m base p = llP x lev m base (p + 1)) := llP_keep hpm (by rw [hla, if_neg (by omega), hlv])
              clear hst hla hem
              go_wp2_with fail
              go_roundw
              case rel => exact ⟨p, b0, rfl, HNX.out, by first | rfl | go_num, by omega, by rw [HPK.out]; exact hO.out, hB.out⟩
              case measure => simp only [intOf]; omega
            · rw [if_neg hneg] at hst
              have cx := HX.out wr hB.out p hpm
              obtain ⟨r, hr⟩ : ∃ r, x p = r := ⟨_, rfl⟩
              rw [hr] at cx hst
              obtain ⟨E, hE⟩ : ∃ E, endB r = E := ⟨_, rfl⟩
              obtain ⟨G, hG⟩ : ∃ G, goesB r = G := ⟨_, rfl⟩
              rw [hE, hG] at hst
              have HE : Hid _ := hE
              have HGO : Hid _ := hG
              have hfi : ((f0 : Int) + (p : Int)) < (n : Int) := by omega
              have HS1 : Hid (emT x lev m (m - p) = true → (llP x lev m base (p + 1)).set p base = llP x lev m base p) := fun h => llP_set hpm (by rw [hla, if_pos ⟨by omega, h⟩])
              have HS2 : Hid (emT x lev m (m - p) = false → llP x lev m base p = llP x lev m base (p + 1)) := fun h => llP_keep hpm (by rw [hla, if_neg (by rw [h]; simp), hlv])
              have HST : Hid (emT x lev m (m - p) = (E || b0 && G)) := hst
              clear hst hla hem hlv hE hG hr
              cases E
              · cases b0
                · have HNX : Hid (emT x lev m (m - p) = false) := by unfold Hid; rw [HST.out]; rfl
                  go_wp2_with (go_at_call 25; refine (implEnds _ _ false HE.out).mono ?_; rintro e w4 ⟨rfl, b4⟩; have HB4 : Hid (Below w.heap.size w w4) := bstep hB.out b4; have HO4 : Hid (OwnI w4 w2.heap.size (.slice (some ⟨g3, 0, none⟩) m c3) (llP x lev m base (p + 1))) := hO.out.below b4)
                  go_roundw
                  case rel => exact ⟨p, false, rfl, HNX.out, by first | rfl | go_num, by omega, by rw [HS2.out HNX.out]; exact HO4.out, HB4.out⟩
                  case measure => simp only [intOf]; omega
                · cases G
                  · have HNX : Hid (emT x lev m (m - p) = false) := by unfold Hid; rw [HST.out]; rfl
                    go_wp2_with (first | (go_at_call 25; refine (implEnds _ _ false HE.out).mono ?_; rintro e w4 ⟨rfl, b4⟩; have HB4 : Hid (Below w.heap.size w w4) := bstep hB.out b4; have HO4 : Hid (OwnI w4 w2.heap.size (.slice (some ⟨g3, 0, none⟩) m c3) (llP x lev m base (p + 1))) := hO.out.below b4) | (go_at_call 26; refine (implGoes _ _ false HGO.out).mono ?_; rintro e w5 ⟨rfl, b5⟩; have HB5 : Hid (Below w.heap.size w w5) := bstep HB4.out b5; have HO5 : Hid (OwnI w5 w2.heap.size (.slice (some ⟨g3, 0, none⟩) m c3) (llP x lev m base (p + 1))) := HO4.out.below b5))
                    go_roundw
                    case rel => exact ⟨p, false, rfl, HNX.out, by first | rfl | go_num, by omega, by rw [HS2.out HNX.out]; exact HO5.out, HB5.out⟩
                    case measure => simp only [intOf]; omega
                  · have HNX : Hid (emT x lev m (m - p) = true) := by unfold Hid; rw [HST.out]; rfl
                    go_wp2_with (first | (go_at_call 25; refine (implEnds _ _ false HE.out).mono ?_; rintro e w4 ⟨rfl, b4⟩; have HB4 : Hid (Below w.heap.size w w4) := bstep hB.out b4; have HO4 : Hid (OwnI w4 w2.heap.size (.slice (some ⟨g3, 0, none⟩) m c3) (llP x lev m base (p + 1))) := hO.out.below b4) | (go_at_call 26; refine (implGoes _ _ true HGO.out).mono ?_; rintro e w5 ⟨rfl, b5⟩; have HB5 : Hid (Below w.heap.size w w5) := bstep HB4.out b5; have HO5 : Hid (OwnI w5 w2.heap.size (.slice (some ⟨g3, 0, none⟩) m c3) (llP x lev m base (p + 1))) := HO4.out.below b5; have c5 := HO5.out.cellN p (by omega); have f5 : w5.frozen? ⟨g3, p, none⟩ = false := HO5.out.frozenN p))
                    go_roundw
                    case rel => exact ⟨p, true, rfl, HNX.out, by first | rfl | go_num, by omega, by rw [← HS1.out HNX.out]; exact HO5.out.storedN _ _, HB5.out.setCell (Nat.le_trans hsz2 (HO5.out.lt g3 rfl).1) _⟩
                    case measure => simp only [intOf]; omega
              · have HNX : Hid (emT x lev m (m - p) = true) := by unfold Hid; rw [HST.out]; rfl
                go_wp2_with (go_at_call 25; refine (implEnds _ _ true HE.out).mono ?_; rintro e w4 ⟨rfl, b4⟩; have HB4 : Hid (Below w.heap.size w w4) := bstep hB.out b4; have HO4 : Hid (OwnI w4 w2.heap.size (.slice (some ⟨g3, 0, none⟩) m c3) (llP x lev m base (p + 1))) := hO.out.below b4; have c4 := HO4.out.cellN p (by omega); have f4 : w4.frozen? ⟨g3, p, none⟩ = false := HO4.out.frozenN p)
                go_roundw
                case rel => exact ⟨p, true, rfl, HNX.out, by first | rfl | go_num, by omega, by rw [← HS1.out HNX.out]; exact HO4.out.storedN _ _, HB4.out.setCell (Nat.le_trans hsz2 (HO4.out.lt g3 rfl).1) _⟩
                case measure => simp only [intOf]; omega
  · have HD : Hid (decide (0 ≤ f ∧ f ≤ t ∧ t ≤ (l.length : Int)) = false) := decide_eq_false hft
    have hR := lineLR_no (mt := mt) (l := l) (base := base) (f := f) (t := t) (fun h => hft h.2)
    have HR : Hid _ := hR
    clear hR hft
    go_enter Tryz.func13, Tryz.ntmps13
    go_wp2_with (go_at_call 22; refine (HTH.out _ false HD.out).mono ?_; rintro e w1 ⟨rfl, hw1⟩; rw [hw1]; clear hw1 w1)
    go_ret
    exact ⟨⟨_, rfl, by rw [HR.out]; exact OwnI.nil _ _⟩, Below.refl _ _⟩
end Go.Proofs.YtgojdlbidjnmmabGreat
namespace Go.Proofs.YtgojdlbidjnmmabGreat
open Go.ChangeShapes Go.WideShapes Go.ChangeAt Go.RowKit Go.Deep
set_option linter.unusedSimpArgs false
set_option linter.unusedVariables false

def emptyB (r : Int) : Bool := decide (bidi r = 12 ∨ 19 ≤ bidi r ∨ bidi r = 10 ∨ (14 ≤ bidi r ∧ bidi r ≤ 18))
theorem bidi_nl : bidi 10 = 13 := by decide
theorem empty_tells {r : Int} (h : tellsB (bidi r) = true) : emptyB r = true ∧ endB r = false := by
  unfold tellsB at h
  have h := of_decide_eq_true h
  unfold emptyB endB
  constructor
  · exact decide_eq_true (by omega)
  · refine decide_eq_false (fun e => ?_)
    rcases e with e | e
    · subst e; rw [bidi_nl] at h; omega
    · omega
theorem empty_not {r : Int} (h : tellsB (bidi r) = false) : emptyB r = goesB r := by
  unfold tellsB at h
  have h := of_decide_eq_false h
  have h12 := bidi_12 r
  unfold emptyB goesB
  by_cases e : r = 32 ∨ 19 ≤ bidi r
  · rw [decide_eq_true e]
    refine decide_eq_true ?_
    rcases e with e | e
    · exact .inl (h12.2 e)
    · exact .inr (.inl e)
  · rw [decide_eq_false e]
    refine decide_eq_false (fun e2 => ?_)
    rcases e2 with e2 | e2
    · exact e (.inl (h12.1 e2))
    · omega
set_option maxHeartbeats 2000000 in
theorem specEmpty (r : Int) (w : World) (q : Bool) (hq : Hid (emptyB r = q)) : Calls Tryz.prog 34 #[.int .i64 r] w fun e w' => e = .returned (.bool q) ∧ Below w.heap.size w w' := by
  obtain ⟨c, hc⟩ : ∃ c, bidi r = c := ⟨_, rfl⟩
  have HC : Hid _ := hc
  have HQ0 : Hid (decide (c = 12 ∨ 19 ≤ c ∨ c = 10 ∨ (14 ≤ c ∧ c ≤ 18)) = q) := by unfold Hid; rw [← hc]; exact hq.out
  clear hq hc
  by_cases h1 : c = 12
  · have HQ : Hid (true = q) := by unfold Hid; rw [← HQ0.out]; simp [h1]
    subst h1
    go_enter Tryz.func34, Tryz.ntmps34
    go_wp2_with (go_at_call 33; refine (specBidi _ _).mono ?_; rintro e w1 ⟨rfl, b1⟩; rw [HC.out])
    go_ret
    exact ⟨retBool HQ.out, b1⟩
  · have hb1 : (c == 12) = false := by simpa using h1
    by_cases h2 : 19 ≤ c
    · have HQ : Hid (true = q) := by unfold Hid; rw [← HQ0.out]; simp [h2]
      go_enter Tryz.func34, Tryz.ntmps34
      go_wp2_with (go_at_call 33; refine (specBidi _ _).mono ?_; rintro e w1 ⟨rfl, b1⟩; rw [HC.out])
      go_ret
      exact ⟨retBool HQ.out, b1⟩
    · by_cases h3 : c = 10
      · have HQ : Hid (true = q) := by unfold Hid; rw [← HQ0.out]; simp [h3]
        subst h3
        go_enter Tryz.func34, Tryz.ntmps34
        go_wp2_with (go_at_call 33; refine (specBidi _ _).mono ?_; rintro e w1 ⟨rfl, b1⟩; rw [HC.out])
        go_ret
        exact ⟨retBool HQ.out, b1⟩
      · have hb3 : (c == 10) = false := by simpa using h3
        have HQ : Hid (inB c 14 18 = q) := by unfold Hid; rw [← HQ0.out]; unfold inB; simp [h1, h2, h3]
        go_enter Tryz.func34, Tryz.ntmps34
        go_wp2_with (first | (go_at_call 33; refine (specBidi _ _).mono ?_; rintro e w1 ⟨rfl, b1⟩; rw [HC.out]) | (go_at_call 17; refine (specIn _ _ _ _).mono ?_; rintro e w2 ⟨rfl, hw2⟩; rw [HQ.out, hw2]; clear hw2 w2))
        go_ret
        exact ⟨retBool (by rw [decide_eq_false (by omega : ¬ (19 : Int) ≤ c)]; rfl), b1⟩

set_option maxRecDepth 10000 in
set_option maxHeartbeats 4000000 in
theorem specLine0 (bl : Option Addr) (gl n c1 c2 f0 : Nat) (base : Int) (w : World) (h1 : f0 ≤ n) (h2 : n ≤ c2) (h3 : n ≤ 80) :
    Calls Tryz.prog 18 #[.slice bl n c1, .slice (some ⟨gl, 0, none⟩) n c2, .int .i64 base, .int .i64 (f0 : Int), .int .i64 (f0 : Int)] w fun e w' => (∃ v', e = .returned v' ∧ OwnI w' w.heap.size v' []) ∧ Below w.heap.size w w' := by
  have hbe : Below w.heap.size w (w.alloc (.cells #[] 3)) := (Below.refl _ _).alloc (Nat.le_refl _) _
  have hat2 : ∀ off, At (w.alloc (.cells #[] 3)) gl off [] := fun off j hj => by simp at hj
  have ho := own_empty w w.heap.size 3 (Nat.le_refl _) rfl
  have hf1 : f0 ≤ c2 := by omega
  by_cases hcf : c2 = f0
  · subst hcf
    go_enter Tryz.func18, Tryz.ntmps18
    go_wp2_with (at_builtin; refine own_appendAll (c := 0) (.tmp 15) (.tmp 19) ho (m := []) rfl (by simp) (by simp) (hat2 0) rfl rfl rfl rfl ?_; intro v4 w4 o4 gr4; have O4 : Hid (OwnI w4 w.heap.size v4 []) := o4; have HB4 : Hid (Below w.heap.size w w4) := hbe.grown gr4 (by simp) (fun k hk => by simp [Value.ownBlock] at hk; omega); clear o4 gr4)
    go_rounds 1
    go_ret
    exact ⟨⟨_, rfl, O4.out⟩, HB4.out⟩
  · go_enter Tryz.func18, Tryz.ntmps18
    go_wp2_with (at_builtin; refine own_appendAll (c := c2 - f0) (.tmp 15) (.tmp 19) ho (m := []) rfl (by simp) (by simp) (hat2 f0) rfl rfl rfl rfl ?_; intro v4 w4 o4 gr4; have O4 : Hid (OwnI w4 w.heap.size v4 []) := o4; have HB4 : Hid (Below w.heap.size w w4) := hbe.grown gr4 (by simp) (fun k hk => by simp [Value.ownBlock] at hk; omega); clear o4 gr4)
    go_rounds 1
    go_ret
    exact ⟨⟨_, rfl, O4.out⟩, HB4.out⟩
set_option maxRecDepth 10000 in
set_option maxHeartbeats 4000000 in
theorem specLineN (bl : Option Addr) (c1 : Nat) (base : Int) (w : World) :
    Calls Tryz.prog 18 #[.slice bl 0 c1, .slice none 0 0, .int .i64 base, .int .i64 0, .int .i64 0] w fun e w' => (∃ v', e = .returned v' ∧ OwnI w' w.heap.size v' []) ∧ Below w.heap.size w w' := by
  have hbe : Below w.heap.size w (w.alloc (.cells #[] 3)) := (Below.refl _ _).alloc (Nat.le_refl _) _
  have ho := own_empty w w.heap.size 3 (Nat.le_refl _) rfl
  have HO : Hid _ := ho
  have HBE : Hid _ := hbe
  clear ho hbe
  go_enter Tryz.func18, Tryz.ntmps18
  go_wp2_with (at_builtin; refine own_appendOwn (.tmp 15) (.tmp 19) HO.out (OwnI.nil _ 0) (by simp) (by simp) rfl rfl rfl rfl ?_; intro v4 w4 o4 gr4; have O4 : Hid (OwnI w4 w.heap.size v4 []) := o4; have HB4 : Hid (Below w.heap.size w w4) := HBE.out.grown gr4 (by simp) (fun k hk => by simp [Value.ownBlock] at hk; omega); clear o4 gr4)
  go_rounds 1
  go_ret
  exact ⟨⟨_, rfl, O4.out⟩, HB4.out⟩

set_option maxRecDepth 10000 in
set_option maxHeartbeats 8000000 in
theorem specLine1 (bl ol cap gl c2 n f0 m : Nat) (l A : List Int) (base : Int) (x lev : Nat → Int) (w : World) (hln : l.length = n) (hA : A.length = n) (hfm : f0 + m ≤ n) (hmp : 0 < m) (h80 : n ≤ 80) (hbl : bl < w.heap.size) (hgl : gl < w.heap.size) (hat : At w bl ol l) (hatA : At w gl 0 A) (hc : n ≤ c2)
    (HXL : Hid (∀ j, j < m → x j = fn l (f0 + j) ∧ lev j = fn A (f0 + j))) (HT : Hid (∀ j, j < m → (lev j < 0 → tellsB (bidi (x j)) = true) ∧ (0 ≤ lev j → tellsB (bidi (x j)) = false))) :
    Calls Tryz.prog 18 #[.slice (some ⟨bl, ol, none⟩) n cap, .slice (some ⟨gl, 0, none⟩) n c2, .int .i64 base, .int .i64 (f0 : Int), .int .i64 ((f0 + m : Nat) : Int)] w fun e w' => (∃ v', e = .returned v' ∧ OwnI w' w.heap.size v' (llF x lev m base)) ∧ Below w.heap.size w w' := by
  have hLLl : ((A.drop f0).take m).length = m := by simp; omega
  have hLLf : ∀ j, j < m → lev j = fn ((A.drop f0).take m) j := fun j hj => by rw [(HXL.out j hj).2, drop_take_fn hj (by omega)]
  have HP0 : Hid (llP x lev m base m = (A.drop f0).take m) := llP_start hLLl hLLf
  have HLL : Hid (((A.drop f0).take m).length = m) := hLLl
  have HX : Hid (∀ V, Below w.heap.size w V → ∀ j, j < m → V.cell? ⟨bl, ol + (f0 + j), none⟩ = some (.int .i64 (x j))) := fun V hV j hj => by
    rw [(HXL.out j hj).1]; exact (hat.below hV hbl) (f0 + j) (by omega)
  have hbe : Below w.heap.size w (w.alloc (.cells #[] 3)) := (Below.refl _ _).alloc (Nat.le_refl _) _
  have hat2 : At (w.alloc (.cells #[] 3)) gl f0 ((A.drop f0).take m) := fun j hj => by
    rw [hLLl] at hj
    rw [← hLLf j hj, (HXL.out j hj).2]
    have := (hatA.below hbe hgl) (f0 + j) (by omega)
    rwa [Nat.zero_add] at this
  have ho := own_empty w w.heap.size 3 (Nat.le_refl _) rfl
  have HHC : Hid (f0 + m ≤ c2) := show f0 + m ≤ c2 by omega
  have hcf : ¬ c2 = f0 := by omega
  have hcf2 : f0 + m ≤ c2 := by omega
  clear hLLl hLLf hat hatA hA hln
  go_enter Tryz.func18, Tryz.ntmps18
  go_wp2_with (at_builtin; refine own_appendAll (.tmp 15) (.tmp 19) ho HLL.out (by simp; omega) (by simp) hat2 rfl rfl rfl (show Value.slice (some ⟨gl, f0, none⟩) (f0 + m - f0) (c2 - f0) = _ from by rw [Nat.add_sub_cancel_left]) ?_; intro v4 w4 o4 gr4; have tok : True := trivial)
  have b4 : Below w.heap.size w w4 := by
    refine hbe.grown gr4 (by simp) (fun k hk => ?_)
    simp [Value.ownBlock] at hk
    omega
  simp only [List.nil_append] at o4
  obtain ⟨g3, c3, e3, hc3⟩ := OwnI.form1 o4 (fun e => by have := HLL.out; rw [e] at this; simp at this; omega)
  rw [HLL.out] at e3 hc3
  subst e3
  have O3 : Hid (OwnI w4 w.heap.size (.slice (some ⟨g3, 0, none⟩) m c3) (llP x lev m base m)) := by unfold Hid; rw [HP0.out]; exact o4
  have HB3 : Hid (Below w.heap.size w w4) := b4
  clear o4 b4 gr4 ho hbe hat2 tok
  go_wp2_with fail
  go_loopw [12, 13] (fun e11 e12 wr => ∃ (k : Nat) (b0 : Bool), e11 = .bool b0 ∧ Hid (emT x lev m (m - k) = b0) ∧ e12 = .int .i64 ((f0 : Int) + (k : Int) - 1) ∧ k ≤ m ∧ Hid (OwnI wr w.heap.size (.slice (some ⟨g3, 0, none⟩) m c3) (llP x lev m base k)) ∧ Hid (Below w.heap.size w wr)) (fun _ e12 _ => (intOf e12 + 1 - f0).toNat)
  case atStart => exact ⟨m, true, rfl, by unfold Hid; rw [Nat.sub_self]; rfl, by first | rfl | (congr 1), Nat.le_refl _, O3.out, HB3.out⟩
  case round =>
    obtain ⟨k, b0, rfl, hem, rfl, hk, hO, hB⟩ := hrel
    rename World => wr
    cases k with
    | zero =>
      have e : (f0 : Int) + ((0 : Nat) : Int) - 1 = (f0 : Int) - 1 := by omega
      rw [e]
      clear e
      go_wp2_with fail
      go_ret
      exact ⟨⟨_, rfl, by rw [← llP_zero]; exact hO.out⟩, hB.out⟩
    | succ p =>
      have e : (f0 : Int) + ((p + 1 : Nat) : Int) - 1 = (f0 : Int) + (p : Int) := by omega
      rw [e]
      clear e
      have hpm : p < m := by omega
      have hpi : (p : Int) < (m : Int) := by omega
      have hwp : IntKind.i64.wrap (p : Int) = (p : Int) := by rw [IntKind.wrap_i64]; omega
      have c1 := hO.out.cellN p (by omega)
      have f1 : wr.frozen? ⟨g3, p, none⟩ = false := hO.out.frozenN p
      rw [fn_llP hpm, if_neg (by omega)] at c1
      have hst := emT_step (x := x) (lev := lev) hpm
      rw [hem.out] at hst
      obtain ⟨lv, hlv⟩ : ∃ lv, lev p = lv := ⟨_, rfl⟩
      have hla : llA x lev m base p = if 0 ≤ lev p ∧ emT x lev m (m - p) = true then base else lev p := rfl
      have hT := HT.out p hpm
      rw [hlv] at c1 hst hla hT
      have cx := HX.out wr hB.out p hpm
      obtain ⟨r, hr⟩ : ∃ r, x p = r := ⟨_, rfl⟩
      rw [hr] at cx hst hT
      have hfi : ((f0 : Int) + (p : Int)) < (n : Int) := by omega
      obtain ⟨c, hcc⟩ : ∃ c, bidi r = c := ⟨_, rfl⟩
      have HC : Hid _ := hcc
      obtain ⟨M, hM⟩ : ∃ M, emptyB r = M := ⟨_, rfl⟩
      have HM : Hid (emptyB r = M) := hM
      -- what the place becomes
      have HS1 : Hid (0 ≤ lv → emT x lev m (m - p) = true → (llP x lev m base (p + 1)).set p base = llP x lev m base p) := fun h0 h => llP_set hpm (by rw [hla, if_pos ⟨h0, h⟩])
      have HS2 : Hid (emT x lev m (m - p) = false ∨ lv < 0 → llP x lev m base p = llP x lev m base (p + 1)) := fun h => llP_keep hpm (by
        rw [hla, hlv]
        rcases h with h | h
        · rw [if_neg (by rw [h]; simp)]
        · rw [if_neg (by omega)])
      by_cases hE : endB r = true
      · have hl0 : 0 ≤ lv := by
          rcases Int.lt_or_le lv 0 with q | q
          · have := (empty_tells (hT.1 q)).2; rw [this] at hE; cases hE
          · exact q
        rw [if_neg (by omega), hE] at hst
        have HNX : Hid (emT x lev m (m - p) = true) := by unfold Hid; rw [hst]; rfl
        have hE2 : r = 10 ∨ bidi r = 11 := of_decide_eq_true hE
        rw [hcc] at hE2
        by_cases h11 : c = 11
        · subst h11
          clear hst hla hem hlv hT hM hcc hE hE2 hr
          go_wp2_with (go_at_call 33; refine (specBidi _ _).mono ?_; rintro e w5 ⟨rfl, b5⟩; rw [HC.out]; have HB5 : Hid (Below w.heap.size w w5) := bstep hB.out b5; have HO5 : Hid (OwnI w5 w.heap.size (.slice (some ⟨g3, 0, none⟩) m c3) (llP x lev m base (p + 1))) := hO.out.below b5; have c5 := HO5.out.cellN p (by omega); have f5 : w5.frozen? ⟨g3, p, none⟩ = false := HO5.out.frozenN p)
          go_roundw
          case rel => exact ⟨p, true, rfl, HNX.out, by first | rfl | go_num, by omega, by rw [← HS1.out hl0 HNX.out]; exact HO5.out.storedN _ _, HB5.out.setCell (HO5.out.lt g3 rfl).1 _⟩
          case measure => simp only [intOf]; omega
        · have h10 : r = 10 := by omega
          have hb11 : (c == 11) = false := by simpa using h11
          subst h10
          clear hst hla hem hlv hT hM hcc hE hE2 hr
          go_wp2_with (go_at_call 33; refine (specBidi _ _).mono ?_; rintro e w5 ⟨rfl, b5⟩; rw [HC.out]; have HB5 : Hid (Below w.heap.size w w5) := bstep hB.out b5; have HO5 : Hid (OwnI w5 w.heap.size (.slice (some ⟨g3, 0, none⟩) m c3) (llP x lev m base (p + 1))) := hO.out.below b5; have c5 := HO5.out.cellN p (by omega); have f5 : w5.frozen? ⟨g3, p, none⟩ = false := HO5.out.frozenN p)
          go_roundw
          case rel => exact ⟨p, true, rfl, HNX.out, by first | rfl | go_num, by omega, by rw [← HS1.out hl0 HNX.out]; exact HO5.out.storedN _ _, HB5.out.setCell (HO5.out.lt g3 rfl).1 _⟩
          case measure => simp only [intOf]; omega
      · have hE0 : endB r = false := by simpa using hE
        have hE2 : ¬ (r = 10 ∨ bidi r = 11) := of_decide_eq_false hE0
        rw [hcc] at hE2
        have hb11 : (c == 11) = false := by simp; omega
        have hb10 : (r == 10) = false := by simp; omega
        rw [hE0] at hst
        cases b0
        · have HNX : Hid (emT x lev m (m - p) = false) := by
            unfold Hid; rw [hst]; by_cases q : lv < 0
            · rw [if_pos q]
            · rw [if_neg q]; rfl
          clear hst hla hem hlv hT hM hcc hE hE0 hE2 hr
          go_wp2_with (go_at_call 33; refine (specBidi _ _).mono ?_; rintro e w5 ⟨rfl, b5⟩; rw [HC.out]; have HB5 : Hid (Below w.heap.size w w5) := bstep hB.out b5; have HO5 : Hid (OwnI w5 w.heap.size (.slice (some ⟨g3, 0, none⟩) m c3) (llP x lev m base (p + 1))) := hO.out.below b5)
          go_roundw
          case rel => exact ⟨p, false, rfl, HNX.out, by first | rfl | go_num, by omega, by rw [HS2.out (.inl HNX.out)]; exact HO5.out, HB5.out⟩
          case measure => simp only [intOf]; omega
        · cases M
          · have hl0 : 0 ≤ lv := by
              rcases Int.lt_or_le lv 0 with q | q
              · have := (empty_tells (hT.1 q)).1; rw [hM] at this; cases this
              · exact q
            have hG : goesB r = false := by rw [← empty_not (hT.2 hl0)]; exact hM
            have HNX : Hid (emT x lev m (m - p) = false) := by unfold Hid; rw [hst, if_neg (by omega), hG]; rfl
            clear hst hla hem hlv hT hM hcc hE hE0 hE2 hr hG
            go_wp2_with (first | (go_at_call 33; refine (specBidi _ _).mono ?_; rintro e w5 ⟨rfl, b5⟩; rw [HC.out]; have HB5 : Hid (Below w.heap.size w w5) := bstep hB.out b5; have HO5 : Hid (OwnI w5 w.heap.size (.slice (some ⟨g3, 0, none⟩) m c3) (llP x lev m base (p + 1))) := hO.out.below b5) | (go_at_call 34; refine (specEmpty _ _ false HM.out).mono ?_; rintro e w6 ⟨rfl, b6⟩; have HB6 : Hid (Below w.heap.size w w6) := bstep HB5.out b6; have HO6 : Hid (OwnI w6 w.heap.size (.slice (some ⟨g3, 0, none⟩) m c3) (llP x lev m base (p + 1))) := HO5.out.below b6))
            go_roundw
            case rel => exact ⟨p, false, rfl, HNX.out, by first | rfl | go_num, by omega, by rw [HS2.out (.inl HNX.out)]; exact HO6.out, HB6.out⟩
            case measure => simp only [intOf]; omega
          · by_cases hneg : lv < 0
            · have HNX : Hid (emT x lev m (m - p) = true) := by unfold Hid; rw [hst, if_pos hneg]
              have HFN : Hid (fn (llP x lev m base (p + 1)) p = lv) := by unfold Hid; rw [fn_llP hpm, if_neg (by omega), hlv]
              clear hst hla hem hlv hT hM hcc hE hE0 hE2 hr
              go_wp2_with (first | (go_at_call 33; refine (specBidi _ _).mono ?_; rintro e w5 ⟨rfl, b5⟩; rw [HC.out]; have HB5 : Hid (Below w.heap.size w w5) := bstep hB.out b5; have HO5 : Hid (OwnI w5 w.heap.size (.slice (some ⟨g3, 0, none⟩) m c3) (llP x lev m base (p + 1))) := hO.out.below b5) | (go_at_call 34; refine (specEmpty _ _ true HM.out).mono ?_; rintro e w6 ⟨rfl, b6⟩; have HB6 : Hid (Below w.heap.size w w6) := bstep HB5.out b6; have HO6 : Hid (OwnI w6 w.heap.size (.slice (some ⟨g3, 0, none⟩) m c3) (llP x lev m base (p + 1))) := HO5.out.below b6; have c6 := HO6.out.cellN p (by omega); rw [HFN.out] at c6))
              go_roundw
              case rel => exact ⟨p, true, rfl, HNX.out, by first | rfl | go_num, by omega, by rw [HS2.out (.inr hneg)]; exact HO6.out, HB6.out⟩
              case measure => simp only [intOf]; omega
            · have hl0 : 0 ≤ lv := by omega
              have hG : goesB r = true := by rw [← empty_not (hT.2 hl0)]; exact hM
              have HNX : Hid (emT x lev m (m - p) = true) := by unfold Hid; rw [hst, if_neg hneg, hG]; rfl
              have HFN : Hid (fn (llP x lev m base (p + 1)) p = lv) := by unfold Hid; rw [fn_llP hpm, if_neg (by omega), hlv]
              clear hst hla hem hlv hT hM hcc hE hE0 hE2 hr hG
              go_wp2_with (first | (go_at_call 33; refine (specBidi _ _).mono ?_; rintro e w5 ⟨rfl, b5⟩; rw [HC.out]; have HB5 : Hid (Below w.heap.size w w5) := bstep hB.out b5; have HO5 : Hid (OwnI w5 w.heap.size (.slice (some ⟨g3, 0, none⟩) m c3) (llP x lev m base (p + 1))) := hO.out.below b5) | (go_at_call 34; refine (specEmpty _ _ true HM.out).mono ?_; rintro e w6 ⟨rfl, b6⟩; have HB6 : Hid (Below w.heap.size w w6) := bstep HB5.out b6; have HO6 : Hid (OwnI w6 w.heap.size (.slice (some ⟨g3, 0, none⟩) m c3) (llP x lev m base (p + 1))) := HO5.out.below b6; have c6 := HO6.out.cellN p (by omega); rw [HFN.out] at c6; have f6 : w6.frozen? ⟨g3, p, none⟩ = false := HO6.out.frozenN p))
              go_roundw
              case rel => exact ⟨p, true, rfl, HNX.out, by first | rfl | go_num, by omega, by rw [← HS1.out hl0 HNX.out]; exact HO6.out.storedN _ _, HB6.out.setCell (HO6.out.lt g3 rfl).1 _⟩
              case measure => simp only [intOf]; omega

/-- What is told of the classes by the levels. -/
theorem levF_tells {l : List Int} {mt : Nat → Nat} {base : Int} {n : Nat} (h : LevTxt l mt base n) {j : Nat} (hj : j < n) : (fn (levsF l mt base) j < 0 → tellsB (cl l j) = true) ∧ (0 ≤ fn (levsF l mt base) j → tellsB (cl l j) = false) := by
  have hb := lvAt_bd (cl l) (fsF (cl l) mt) h.b01 j
  rw [← fn_lvL (n := n) hj] at hb
  by_cases hs : 0 ≤ fn (lvL (cl l) (fsF (cl l) mt) base n) j
  · obtain ⟨r, k, hk, _, _, e, _⟩ := levF_at h hj hs
    have hm := moreF_bd (fn (lvL (cl l) (fsF (cl l) mt) base n) j) (fn (runL (cl l) l (lvL (cl l) (fsF (cl l) mt) base n) (clL (cl l) (fsF (cl l) mt) base n) n mt base r) k)
    have h0 : 0 ≤ fn (levsF l mt base) j := by omega
    refine ⟨fun q => by omega, fun _ => ?_⟩
    rcases hb with ⟨_, q⟩ | ⟨q, _⟩
    · omega
    · exact q
  · have e := levF_no h hj (by omega)
    refine ⟨fun _ => ?_, fun q => by omega⟩
    rcases hb with ⟨q, _⟩ | ⟨_, q, _⟩
    · exact q
    · have := h.b01.1; omega

set_option maxRecDepth 10000 in
set_option maxHeartbeats 8000000 in
theorem specLine (v : Value) (l : List Int) (mt : Nat → Nat) (base f t : Int) (w : World) (a : Option Addr) (cap : Nat) (hva : v = .slice a l.length cap) (hv : Arg w v l) (hl : l.length ≤ 1048576) (hmt : Hid (MateFn (cl l) l.length mt)) :
    Calls Tryz.prog 10 #[v, .int .i64 base, .int .i64 f, .int .i64 t] w fun e w' => (∃ v', e = .returned v' ∧ OwnI w' w.heap.size v' (lineLR l mt base f t)) ∧ Below w.heap.size w w' := by
  subst hva
  have hl4 : l.length ≤ 4194304 := by omega
  have HV : Hid (Arg w (.slice a l.length cap) l) := hv
  have ho := own_empty w w.heap.size 3 (Nat.le_refl _) rfl
  have HO : Hid _ := ho
  have HB0 : Hid (Below w.heap.size w (w.alloc (.cells #[] 3))) := (Below.refl _ _).alloc (Nat.le_refl _) _
  by_cases hq : okT l base = true
  · have HQ : Hid (okT l base = true) := hq
    by_cases h1 : 0 ≤ f ∧ f ≤ l.length
    · have H1 : Hid (inB f 0 (l.length : Int) = true) := decide_eq_true h1
      by_cases h2 : f ≤ t ∧ t ≤ l.length
      · have H2 : Hid (inB t f (l.length : Int) = true) := decide_eq_true h2
        have hR := lineLR_yes (mt := mt) (l := l) (base := base) (f := f) (t := t) ⟨hq, h1.1, h2.1, h2.2⟩
        have hlx := levTxt hq hmt.out
        obtain ⟨hok, hb01, h80⟩ := okT_out hq
        have hA3 := levsF_len l mt base
        obtain ⟨f0, hf0⟩ : ∃ f0, f.toNat = f0 := ⟨_, rfl⟩
        obtain ⟨m, hm⟩ : ∃ m, t.toNat - f.toNat = m := ⟨_, rfl⟩
        have hfe : f = (f0 : Int) := by omega
        have hte : t = (f0 : Int) + (m : Int) := by omega
        have hfm : f0 + m ≤ l.length := by omega
        rw [hR]
        unfold lineLv
        rw [hm, hf0]
        subst hfe hte
        -- the levels, and what the line makes of them
        have HLV : Hid (Calls Tryz.prog 19 #[.slice a l.length cap, .int .i64 base] w fun e w' => (∃ v', e = .returned v' ∧ OwnI w' w.heap.size v' (levsF l mt base)) ∧ Below w.heap.size w w') := by
          by_cases h0 : l = []
          · subst h0
            have e : levsF [] mt base = [] := List.eq_nil_of_length_eq_zero (levsF_len [] mt base)
            rw [e]
            exact specLevels0 a cap mt base w hv hb01 hmt
          · rcases hv with ⟨_, _, _, e⟩ | ⟨b, off, cap', e, hb, hlc, hcm, hat⟩
            · exact absurd e h0
            · simp only [Value.slice.injEq, true_and] at e
              obtain ⟨rfl, rfl⟩ := e
              exact specLevels1 b off cap l.length l mt base w rfl (List.length_pos_iff.2 h0) h80 hok hb01 hb hat HV.out hmt
        have HLN : Hid (∀ w1 v1, Below w.heap.size w w1 → OwnI w1 w.heap.size v1 (levsF l mt base) → Calls Tryz.prog 18 #[.slice a l.length cap, v1, .int .i64 base, .int .i64 (f0 : Int), .int .i64 ((f0 : Int) + (m : Int))] w1 fun e w' => (∃ v', e = .returned v' ∧ OwnI w' w1.heap.size v' (llF (fun j => fn l (f0 + j)) (fun j => fn (levsF l mt base) (f0 + j)) m base)) ∧ Below w1.heap.size w1 w') := fun w1 v1 hb1 o1 => by
          by_cases hm0 : m = 0
          · subst hm0
            rw [show (f0 : Int) + ((0 : Nat) : Int) = (f0 : Int) by omega]
            rw [List.eq_nil_of_length_eq_zero (llF_len _ _ 0 _)]
            rcases o1.forms with ⟨rfl, e⟩ | ⟨g, c, rfl, _, _, hc, _, _⟩
            · have hln : l.length = 0 := by rw [← hA3, e]; rfl
              have hf : f0 = 0 := by omega
              subst hf
              rw [hln]
              exact specLineN a cap base w1
            · rw [hA3] at hc ⊢
              exact specLine0 a g l.length cap c f0 base w1 (by omega) hc h80
          · obtain ⟨g, c, e, hc⟩ := OwnI.form1 o1 (fun e => by rw [e] at hA3; simp at hA3; omega)
            rw [hA3] at e hc
            subst e
            obtain ⟨bl, ol, e1, hbl, hat⟩ : ∃ bl ol, a = some ⟨bl, ol, none⟩ ∧ bl < w.heap.size ∧ At w bl ol l := by
              rcases HV.out with ⟨a0, cap0, e1, e2⟩ | ⟨b, off, cap', e1, hb, hlc, hcm, hat⟩
              · rw [e2] at hfm; simp at hfm; omega
              · simp only [Value.slice.injEq] at e1
                exact ⟨b, off, e1.1, hb, hat⟩
            subst e1
            rw [show (f0 : Int) + (m : Int) = ((f0 + m : Nat) : Int) by omega]
            exact specLine1 bl ol cap g c l.length f0 m l (levsF l mt base) base _ _ w1 rfl hA3 hfm (by omega) h80 (Nat.lt_of_lt_of_le hbl hb1.size) (o1.lt g rfl).2 (hat.below hb1 hbl) (fun j hj => by rw [Nat.zero_add]; exact o1.cellN j (by rw [← hA3]; exact hj)) hc (fun j hj => ⟨rfl, rfl⟩) (fun j hj => levF_tells hlx (by omega))
        clear hq hR hlx hok hb01 h80 hA3 hf0 hm hv ho hmt h1 h2
        go_enter Tryz.func10, Tryz.ntmps10
        go_wp2_with (first | (go_at_call 16; refine (specOk3 _ l base _ HV.out hl4).mono ?_; rintro e w1 ⟨rfl, hw1⟩; rw [HQ.out, hw1]; clear hw1 w1) | (go_at_call 17; refine (specIn _ _ _ _).mono ?_; rintro e w2 ⟨rfl, hw2⟩; (first | rw [H1.out, hw2] | rw [H2.out, hw2]); clear hw2 w2))
        refine Calls.mono HLV.out ?_
        rintro e w3 ⟨⟨v3, rfl, o3⟩, b3⟩
        have HL3 := HLN.out w3 v3 b3 o3
        have HL4 : Hid _ := HL3
        have HB3 : Hid (Below w.heap.size w w3) := b3
        have hsz := b3.size
        clear HL3 o3 b3
        go_wp2_with fail
        refine Calls.mono HL4.out ?_
        rintro e w4 ⟨⟨v4, rfl, o4⟩, b4⟩
        go_wp2_with fail
        go_ret
        exact ⟨⟨_, rfl, o4.mono hsz⟩, bstep HB3.out b4⟩
      · have H2 : Hid (inB t f (l.length : Int) = false) := decide_eq_false h2
        have hR := lineLR_no (mt := mt) (l := l) (base := base) (f := f) (t := t) (fun h => h2 ⟨h.2.2.1, h.2.2.2⟩)
        have HR : Hid _ := hR
        clear hq hR hv ho hmt h1 h2
        go_enter Tryz.func10, Tryz.ntmps10
        go_wp2_with (first | (go_at_call 16; refine (specOk3 _ l base _ HV.out hl4).mono ?_; rintro e w1 ⟨rfl, hw1⟩; rw [HQ.out, hw1]; clear hw1 w1) | (go_at_call 17; refine (specIn _ _ _ _).mono ?_; rintro e w2 ⟨rfl, hw2⟩; (first | rw [H1.out, hw2] | rw [H2.out, hw2]); clear hw2 w2))
        go_ret
        exact ⟨⟨_, rfl, by rw [HR.out]; exact HO.out⟩, HB0.out⟩
    · have H1 : Hid (inB f 0 (l.length : Int) = false) := decide_eq_false h1
      have hR := lineLR_no (mt := mt) (l := l) (base := base) (f := f) (t := t) (fun h => h1 ⟨h.2.1, by omega⟩)
      have HR : Hid _ := hR
      clear hq hR hv ho hmt h1
      go_enter Tryz.func10, Tryz.ntmps10
      go_wp2_with (first | (go_at_call 16; refine (specOk3 _ l base _ HV.out hl4).mono ?_; rintro e w1 ⟨rfl, hw1⟩; rw [HQ.out, hw1]; clear hw1 w1) | (go_at_call 17; refine (specIn _ _ _ _).mono ?_; rintro e w2 ⟨rfl, hw2⟩; rw [H1.out, hw2]; clear hw2 w2))
      go_ret
      exact ⟨⟨_, rfl, by rw [HR.out]; exact HO.out⟩, HB0.out⟩
  · have HQ : Hid (okT l base = false) := by show _ = _; simpa using hq
    have hR := lineLR_no (mt := mt) (l := l) (base := base) (f := f) (t := t) (fun h => hq h.1)
    have HR : Hid _ := hR
    clear hq hR hv ho hmt
    go_enter Tryz.func10, Tryz.ntmps10
    go_wp2_with (go_at_call 16; refine (specOk3 _ l base _ HV.out hl4).mono ?_; rintro e w1 ⟨rfl, hw1⟩; rw [HQ.out, hw1]; clear hw1 w1)
    go_ret
    exact ⟨⟨_, rfl, by rw [HR.out]; exact HO.out⟩, HB0.out⟩
end Go.Proofs.YtgojdlbidjnmmabGreat
namespace Go.Proofs.YtgojdlbidjnmmabGreat
set_option linter.unusedSimpArgs false

/-- Where the stretch of a place begins. -/
def stA (q : Nat → Bool) : Nat → Nat
  | 0 => 0
  | x + 1 => if q x = true then stA q x else x + 1
/-- Where it ends. -/
def enA (q : Nat → Bool) : Nat → Nat → Nat
  | 0, x => x
  | f + 1, x => if q x = true then enA q f (x + 1) else x
theorem stA_is {q : Nat → Bool} {s x : Nat} (hs : s ≤ x) (hin : ∀ y, s ≤ y → y < x → q y = true) (hb : s = 0 ∨ q (s - 1) = false) : stA q x = s := by
  induction x with
  | zero => simp [stA]; omega
  | succ x ih =>
    simp only [stA]
    by_cases e : s = x + 1
    · subst e
      rcases hb with hb | hb
      · omega
      · rw [Nat.add_sub_cancel] at hb; rw [hb]; simp
    · rw [if_pos (hin x (by omega) (by omega))]; exact ih (by omega) (fun y a b => hin y a (by omega))
theorem enA_is {q : Nat → Bool} {n e x : Nat} (hx : x ≤ e) (he : e ≤ n) (hin : ∀ y, x ≤ y → y < e → q y = true) (hb : e = n ∨ q e = false) : enA q (n - x) x = e := by
  obtain ⟨d, hd⟩ : ∃ d, e - x = d := ⟨_, rfl⟩
  induction d generalizing x with
  | zero =>
    have : x = e := by omega
    subst this
    rcases hb with hb | hb
    · rw [show n - x = 0 by omega]; rfl
    · by_cases h0 : n - x = 0
      · rw [h0]; rfl
      · obtain ⟨f, hf⟩ : ∃ f, n - x = f + 1 := ⟨n - x - 1, by omega⟩
        rw [hf]; simp [enA, hb]
  | succ d ih =>
    obtain ⟨f, hf⟩ : ∃ f, n - x = f + 1 := ⟨n - x - 1, by omega⟩
    rw [hf]
    simp only [enA]
    rw [if_pos (hin x (Nat.le_refl _) (by omega)), show f = n - (x + 1) by omega]
    exact ih (by omega) (fun y a b => hin y (by omega) b) (by omega)

/-- What stands at a place when each stretch is turned round. -/
def turnAt (q : Nat → Bool) (l : List Int) (x : Nat) : Int :=
  if q x = true then fn l (stA q x + enA q (l.length - x) x - 1 - x) else fn l x
def turned (q : Nat → Bool) (l : List Int) : List Int := (List.range l.length).map (turnAt q l)
theorem turned_len (q : Nat → Bool) (l : List Int) : (turned q l).length = l.length := by simp [turned]
theorem fn_turned {q : Nat → Bool} {l : List Int} {x : Nat} (h : x < l.length) : fn (turned q l) x = turnAt q l x := by simp [fn, turned, h]
theorem turn_in {q : Nat → Bool} {l : List Int} {s e x : Nat} (hs : s ≤ x) (he : x < e) (hn : e ≤ l.length) (hin : ∀ y, s ≤ y → y < e → q y = true) (hb : s = 0 ∨ q (s - 1) = false) (hb2 : e = l.length ∨ q e = false) :
    turnAt q l x = fn l (s + e - 1 - x) := by
  unfold turnAt
  rw [if_pos (hin x hs he), stA_is hs (fun y a b => hin y a (by omega)) hb, enA_is (by omega) hn (fun y a b => hin y (by omega) b) hb2]
theorem turn_out {q : Nat → Bool} {l : List Int} {x : Nat} (h : q x = false) : turnAt q l x = fn l x := by simp [turnAt, h]
theorem stA_le (q : Nat → Bool) (x : Nat) : stA q x ≤ x := by
  induction x with
  | zero => simp [stA]
  | succ x ih => simp only [stA]; split <;> omega
theorem enA_bounds (q : Nat → Bool) (f x : Nat) : x ≤ enA q f x ∧ enA q f x ≤ x + f := by
  induction f generalizing x with
  | zero => simp [enA]
  | succ f ih => simp only [enA]; split
                 · have := ih (x + 1); omega
                 · omega
theorem turn_mem {q : Nat → Bool} {l : List Int} {x : Nat} (hx : x < l.length) : ∃ y, y < l.length ∧ turnAt q l x = fn l y := by
  unfold turnAt
  split
  · rename_i hq
    refine ⟨_, ?_, rfl⟩
    have h1 := stA_le q x
    have h2 := enA_bounds q (l.length - x) x
    have h3 : x < enA q (l.length - x) x := by
      obtain ⟨f, hf⟩ : ∃ f, l.length - x = f + 1 := ⟨l.length - x - 1, by omega⟩
      rw [hf]; simp only [enA]; rw [if_pos hq]; have := (enA_bounds q f (x + 1)).1; omega
    omega
  · exact ⟨x, hx, rfl⟩

/-- Part of a row, the other way round. -/
def revAt (l : List Int) (i m k x : Nat) : Int := if (i ≤ x ∧ x < i + k) ∨ (i + m - k ≤ x ∧ x < i + m) then fn l (2 * i + m - 1 - x) else fn l x
end Go.Proofs.YtgojdlbidjnmmabGreat
