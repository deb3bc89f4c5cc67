import Derived.Test.YtanhmphmpobceaaWordF
import Derived.Test.YtanhmphmpobceaaClusAtI
import Derived.Test.YtanhmphmpobceaaDrawWs
import Derived.Test.YtanhmphmpobceaaWc
import Derived.Test.YtanhmphmpobceaaGrow
namespace Go.Proofs.Ytanhmphmpobceaa
open Go.ChangeShapes Go.WideShapes Go.ChangeAt Go.RowKit
set_option linter.unusedSimpArgs false

theorem wspan_idx {z : Nat → Int} {n i : Nat} (hi : i < (wstarts z n).length) :
    ∃ q e : Nat, fn (wstarts z n) i = (q : Int) ∧ (if i + 1 < (wstarts z n).length then fn (wstarts z n) (i + 1) = (e : Int) else e = n) ∧ q < e ∧ e ≤ n ∧ ∀ k, q ≤ k → k < e → WSpan z n k q e := by
  obtain ⟨q, hq, e1, hb⟩ := wstarts_of hi
  have hF : Found (wstarts z n) ((q : Int) + 1) (i + 1) := by
    refine ⟨by omega, fun j hj => ?_, fun h => ?_⟩
    · rcases Nat.lt_or_ge j i with h | h
      · have := wstarts_mono z n j i h hi; omega
      · have : j = i := by omega
        subst this; omega
    · have := wstarts_mono z n i (i + 1) (by omega) h; omega
  obtain ⟨_, f, t, h1, h2, h3⟩ := wspan_found hF hq
  have hf : f = q := by rw [show i + 1 - 1 = i by omega, e1] at h1; omega
  subst hf
  refine ⟨f, t, e1, h2, h3.pt, h3.tn, fun k hk hk2 => ⟨hk, hb, fun j h4 h5 => h3.to j h4 (by omega), hk2, h3.tn, fun j h4 h5 => h3.to j (by omega) h5, h3.tb⟩⟩
theorem wbeg_begins {z : Nat → Int} {k : Nat} (h : wbeg z k = true) : begins z k = true := by
  cases k with
  | zero => simp [begins]
  | succ k => simp [wbeg] at h; exact h.1
theorem wfirst_zero {z : Nat → Int} {n : Nat} (h : 0 < (wstarts z n).length) : fn (wstarts z n) 0 = 0 := by
  obtain ⟨q, h1, h2, _⟩ := wstarts_of h
  obtain ⟨i, hi, e⟩ := wstarts_idx (z := z) (n := n) (k := 0) (by omega) rfl
  rcases Nat.eq_zero_or_pos i with c | c
  · subst c; exact e
  · have := wstarts_mono z n 0 i c hi; omega

set_option maxHeartbeats 8000000 in
theorem wordsLawP (a : Option Addr) (len cap : Nat) (w : World) (h : Bytes w a len cap) :
    Calls Try.prog 3 #[.slice a len cap] w fun e w' => e = .returned (.bool true) ∧ Below w.heap.size w w' := by
  by_cases hbig : 1048576 < len
  · have hbig2 : (1048576 : Int) < (len : Int) := by omega
    go_enter Try.func3, Try.ntmps3
    go_wp2_with fail
    go_ret
    exact ⟨rfl, Below.refl _ _⟩
  · have hbig2 : (len : Int) ≤ 1048576 := by omega
    go_enter Try.func3, Try.ntmps3
    go_wp2_with fail
    refine (drawWS a len cap w h).mono ?_
    rintro e w1 ⟨⟨v, l, rfl, ol, hlen⟩, b1⟩
    go_wp2_with fail
    refine (implWordStarts _ l _ ol.arg (by omega)).mono ?_
    rintro e w2 ⟨⟨vs, rfl, os⟩, b2⟩
    go_wp2_with fail
    refine (specWordStarts _ l _ (ol.below b2).arg (by omega)).mono ?_
    rintro e w3 ⟨⟨vw, rfl, ow⟩, b3⟩
    have hc80 := words_len l
    go_wp2_with fail
    refine (wcInts_yes _ _ (words l) _ (os.below b3).arg ow.arg (by omega)).mono ?_
    rintro e w4 ⟨rfl, b4⟩
    have hB4 := bstep (bstep (bstep b1 b2) b3) b4
    have ol4 := ((ol.below b2).below b3).below b4
    have os4 := (os.below b3).below b4
    clear ol os ow
    obtain ⟨m, hm⟩ : ∃ m, (words l).length = m := ⟨_, rfl⟩
    have HM : Hid ((words l).length = m) := hm
    obtain ⟨sa, cs, hvs⟩ : ∃ sa cs, vs = .slice sa m cs := by
      rcases os4.forms with ⟨rfl, hs0⟩ | ⟨g, cp, rfl, _⟩
      · rw [hs0] at hm; simp at hm; subst hm; exact ⟨_, _, rfl⟩
      · rw [hm]; exact ⟨_, _, rfl⟩
    subst hvs
    rw [hm] at hc80
    clear hm
    by_cases hm0 : m = 0
    · subst hm0
      go_wp2_with fail
      refine (specWordStarts _ l _ ol4.arg (by omega)).mono ?_
      rintro e w5 ⟨⟨vw5, rfl, ow5⟩, b5⟩
      go_wp2_with fail
      refine (wcInts_yes _ _ (words l) _ (os4.below b5).arg ow5.arg (by rw [HM.out]; omega)).mono ?_
      rintro e w6 ⟨rfl, b6⟩
      go_wp2_with fail
      go_ret
      exact ⟨rfl, bstep (bstep hB4 b5) b6⟩
    · have hok : okF (fn l) l.length = true := by
        cases hok : okF (fn l) l.length
        · have := HM.out; rw [words_bad hok] at this; simp at this; omega
        · rfl
      have hmb : ((m : Int) == 0) = false := by simp; omega
      obtain ⟨n, hn⟩ : ∃ n, l.length = n := ⟨_, rfl⟩
      have HN : Hid (l.length = n) := hn
      have HOK : Hid (okF (fn l) l.length = true) := hok
      have hn80 : n ≤ 81 := by omega
      have HI : Hid (∀ i, i < m → ∃ q e : Nat, fn (words l) i = (q : Int) ∧ (if i + 1 < m then fn (words l) (i + 1) = (e : Int) else e = n) ∧ q < e ∧ e ≤ n ∧ ∀ k, q ≤ k → k < e → WAns l (k : Int) (q : Int) (e : Int)) := by
        intro i hi
        have hmw : (wstarts (fn l) l.length).length = m := by rw [← words_ok hok]; exact HM.out
        obtain ⟨q, e, h1, h2, h3, h4, h5⟩ := wspan_idx (z := fn l) (n := l.length) (i := i) (by rw [hmw]; exact hi)
        rw [hmw] at h2
        exact ⟨q, e, by rw [words_ok hok]; exact h1, by rw [words_ok hok, ← hn]; exact h2, h3, by omega, fun k hk hk2 => WAns.yes hok (by omega) (h5 k hk hk2)⟩
      have H0 : Hid (fn (words l) 0 = 0) := by show _ = _; rw [words_ok hok]; exact wfirst_zero (by rw [← words_ok hok, HM.out]; omega)
      have HL : Hid (∀ q : Nat, fn (words l) (m - 1) = (q : Int) → atR l (q : Int) = (q : Int)) := by
        intro q hq
        have hmw : (wstarts (fn l) l.length).length = m := by rw [← words_ok hok]; exact HM.out
        obtain ⟨q', h1, h2, h3⟩ := wstarts_of (z := fn l) (n := l.length) (i := m - 1) (by rw [hmw]; omega)
        rw [words_ok hok, h2] at hq
        have : q' = q := by omega
        subst this
        rw [atR_yes hok h1, (atOf_self _ _).2 (wbeg_begins h3)]
      clear hok
      obtain ⟨gs, rfl⟩ : ∃ g, sa = some ⟨g, 0, none⟩ := by
        rcases os4.forms with ⟨hh, _⟩ | ⟨g, cp, hh, _⟩
        · simp only [Value.slice.injEq] at hh; omega
        · simp only [Value.slice.injEq] at hh; exact ⟨g, hh.1⟩
      obtain ⟨al, cl, rfl⟩ : ∃ al cl, v = .slice al n cl := by
        rcases ol4.forms with ⟨rfl, hs0⟩ | ⟨g, cp, rfl, _⟩
        · rw [hs0] at hn; simp at hn; subst hn; exact ⟨_, _, rfl⟩
        · rw [hn]; exact ⟨_, _, rfl⟩
      have HCS : Hid (∀ w' j, Below w4.heap.size w4 w' → j < m → w'.cell? ⟨gs, j, none⟩ = some (.int .i64 (fn (words l) j))) := fun w' j hb hj => (os4.below hb).cellN j hj
      have hgs : gs < w4.heap.size := (os4.lt gs rfl).2
      have hmp : 0 < m := by omega
      clear hn hm0
      go_wp2_with fail
      go_loopw [5] (fun i wr => ∃ k : Nat, k ≤ m ∧ i = .int .i64 k ∧ Below w4.heap.size w4 wr) (fun i _ => m - (intOf i).toNat)
      case atStart => exact ⟨0, Nat.zero_le _, rfl, Below.refl _ _⟩
      case round =>
        obtain ⟨k, hk, rfl, hbel⟩ := hrel
        by_cases hlt : k < m
        · have hki : (k : Int) < (m : Int) := by omega
          obtain ⟨q, t, h1, h2, h3, h4, h5⟩ := HI.out k hlt
          have H5 : Hid (∀ c : Nat, q ≤ c → c < t → WAns l (c : Int) (q : Int) (t : Int)) := h5
          have hc0 := HCS.out wr k hbel hlt
          rw [h1] at hc0
          have HC0 : Hid (∀ w', Below w4.heap.size w4 w' → w'.cell? ⟨gs, k, none⟩ = some (.int .i64 (q : Int))) := fun w' hb => by rw [HCS.out w' k hb hlt, h1]
          clear h1 h5
          by_cases hk1 : k + 1 < m
          · rw [if_pos hk1] at h2
            have hk2 : (k : Int) + 1 < (m : Int) := by omega
            have hc1 := HCS.out wr (k + 1) hbel hk1
            rw [h2] at hc1
            clear h2
            go_wp2_with fail
            go_loopw [7] (fun i wr => ∃ c : Nat, q ≤ c ∧ c ≤ t ∧ i = .int .i64 c ∧ Below w4.heap.size w4 wr) (fun i _ => t - (intOf i).toNat)
            case atStart => exact ⟨q, Nat.le_refl _, by omega, rfl, hbel⟩
            case round =>
              clear hc0 hc1
              obtain ⟨c, hc, hct, rfl, hbel2⟩ := hrel
              by_cases hcl : c < t
              · have hci : (c : Int) < (t : Int) := by omega
                have HA : Hid (WAns l (c : Int) (q : Int) (t : Int)) := H5.out c hc hcl
                go_wp2_with fail
                refine (implWordAt _ l n _ _ _ _ HN rfl (ol4.below hbel2).arg (by omega)).mono ?_
                rintro e w5 ⟨⟨f5, t5, rfl, hA5⟩, b5⟩
                obtain ⟨rfl, rfl⟩ := hA5.one HA.out
                clear hA5
                have hc2 := HC0.out w5 (bstep hbel2 b5)
                go_wp2_with fail
                go_roundw
                case rel => exact ⟨c + 1, by omega, by omega, by go_num, bstep hbel2 b5⟩
                case measure => simp only [intOf]; omega
              · have e : c = t := by omega
                subst e
                go_wp2_with fail
                go_roundw
                case rel => exact ⟨k + 1, by omega, by go_num, hbel2⟩
                case measure => simp only [intOf]; omega
          · rw [if_neg hk1] at h2
            have hk2 : ¬ (k : Int) + 1 < (m : Int) := by omega
            subst h2
            go_wp2_with fail
            go_loopw [7] (fun i wr => ∃ c : Nat, q ≤ c ∧ c ≤ t ∧ i = .int .i64 c ∧ Below w4.heap.size w4 wr) (fun i _ => t - (intOf i).toNat)
            case atStart => exact ⟨q, Nat.le_refl _, by omega, rfl, hbel⟩
            case round =>
              clear hc0
              obtain ⟨c, hc, hct, rfl, hbel2⟩ := hrel
              by_cases hcl : c < t
              · have hci : (c : Int) < (t : Int) := by omega
                have HA : Hid (WAns l (c : Int) (q : Int) (t : Int)) := H5.out c hc hcl
                go_wp2_with fail
                refine (implWordAt _ l t _ _ _ _ HN rfl (ol4.below hbel2).arg (by omega)).mono ?_
                rintro e w5 ⟨⟨f5, t5, rfl, hA5⟩, b5⟩
                obtain ⟨rfl, rfl⟩ := hA5.one HA.out
                clear hA5
                have hc2 := HC0.out w5 (bstep hbel2 b5)
                go_wp2_with fail
                go_roundw
                case rel => exact ⟨c + 1, by omega, by omega, by go_num, bstep hbel2 b5⟩
                case measure => simp only [intOf]; omega
              · have e : c = t := by omega
                subst e
                go_wp2_with fail
                go_roundw
                case rel => exact ⟨k + 1, by omega, by go_num, hbel2⟩
                case measure => simp only [intOf]; omega
        · have e : k = m := by omega
          subst e
          obtain ⟨m, rfl⟩ : ∃ m, k = m + 1 := ⟨k - 1, by omega⟩
          obtain ⟨q, t, h1, _⟩ := HI.out m (by omega)
          have HR : Hid (atR l (q : Int) = (q : Int)) := HL.out q (by rw [show m + 1 - 1 = m by omega]; exact h1)
          have hcA := HCS.out wr 0 hbel (by omega)
          have hcB := HCS.out wr m hbel (by omega)
          rw [H0.out] at hcA
          rw [h1] at hcB
          have hgw : gs < wr.heap.size := Nat.lt_of_lt_of_le hgs hbel.size
          have eA := Gr.cell hcA hgw
          have eB := Gr.cell hcB hgw
          have HAT : Hid (∀ u : Gr wr, Calls Try.prog 14 #[.slice al n cl, .int .i64 (q : Int)] u.1 fun e w' => e = .returned (.int .i64 (q : Int)) ∧ Below u.1.heap.size u.1 w') := fun u => by
            have := implAt (.slice al n cl) l n (q : Int) al cl u.1 HN rfl ((ol4.below hbel).below u.2).arg (by omega)
            rw [HR.out] at this; exact this
          have g1 : (0 : Int) < (m : Int) + 1 := by omega
          have g2 : (m : Int) < (m : Int) + 1 := by omega
          clear h1 hcA hcB
          go_wp2_with fail
          refine wp_region_grow (by kernel_rfl) (by kernel_rfl) ?_
          intro hneGr
          repeat (go_big_quiet_step ((go_at_call 14; exact Calls.grow_of (HAT.out _))))
          refine wpQuiet_nil ?_
          intro w5 hu5
          have b5 := gr_out hu5
          clear hu5
          go_wp2_with fail
          go_ret
          exact ⟨rfl, bstep (bstep hB4 hbel) b5⟩
end Go.Proofs.Ytanhmphmpobceaa
