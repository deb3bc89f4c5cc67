import Derived.Test.YtbjcdogbhnadkadWords
import Derived.Test.YtbjcdogbhnadkadDraw4
import Derived.Test.YtbjcdogbhnadkadBytesRow
import Derived.Test.YtbjcdogbhnadkadWc
namespace Go.Proofs.Ytbjcdogbhnadkad
open Go.ChangeShapes Go.WideShapes Go.ChangeAt Go.RowKit
set_option linter.unusedSimpArgs false

theorem wdsN_pre {z : Nat → Int} {i N : Nat} (h : i ≤ N) : ∃ r, wdsN z N = wdsN z i ++ r := by
  induction N with
  | zero => have : i = 0 := by omega
            subst this; exact ⟨[], by simp⟩
  | succ N ih =>
    by_cases e : i = N + 1
    · subst e; exact ⟨[], by simp⟩
    · obtain ⟨r, hr⟩ := ih (by omega)
      simp only [wdsN]
      split
      · exact ⟨r, hr⟩
      · exact ⟨r ++ [(N : Int) + 1], by rw [hr]; simp⟩
theorem wds_get {z : Nat → Int} {i N : Nat} (h : i < N) (q : z i ≠ 0) : (wdsN z i).length < (wdsN z N).length ∧ fn (wdsN z N) (wdsN z i).length = (i : Int) + 1 := by
  obtain ⟨r, hr⟩ := wdsN_pre (z := z) (i := i + 1) (N := N) (by omega)
  have e : wdsN z (i + 1) = wdsN z i ++ [(i : Int) + 1] := by simp only [wdsN]; rw [if_neg q]
  rw [hr, e]
  constructor
  · simp
  · simp [fn, List.getD]
theorem wds_last {z : Nat → Int} {N : Nat} (q : z N ≠ 0) : fn (wdsN z (N + 1)) ((wdsN z (N + 1)).length - 1) = (N : Int) + 1 := by
  have e : wdsN z (N + 1) = wdsN z N ++ [(N : Int) + 1] := by simp only [wdsN]; rw [if_neg q]
  rw [e]; simp [fn, List.getD]

set_option maxHeartbeats 1000000 in
theorem drawWords (a : Option Addr) (len cap : Nat) (w : World) (h : Bytes w a len cap) :
    Calls Try.prog 13 #[.slice a len cap] w fun e w' => (∃ v l, e = .returned v ∧ OwnI w' w.heap.size v l ∧ l.length ≤ 81) ∧ Below w.heap.size w w' := by
  go_enter Try.func13, Try.ntmps13
  go_wp2_with fail
  refine (open_any a len cap w h).mono ?_
  rintro e w1 ⟨rfl, hr, hb⟩
  have hl1 := hr.lt
  go_wp2_with fail
  refine (any_any _ 0 _ hr (by omega)).mono ?_
  rintro e w2 ⟨⟨v, l, rfl, ho, hl⟩, p, hp, hW⟩
  go_wp2_with fail
  go_ret
  exact ⟨⟨_, l, rfl, ho.mono (Nat.le_of_lt hl1), hl⟩, hb.trans (hW.below (Nat.le_refl _) hl1)⟩

set_option maxHeartbeats 8000000 in
theorem wordsLaw (a : Option Addr) (len cap : Nat) (w : World) (h : Bytes w a len cap) :
    Calls Try.prog 5 #[.slice a len cap] w fun e w' => e = .returned (.bool true) ∧ Below w.heap.size w w' := by
  by_cases hbig : 1048576 < len
  · have hbig2 : (1048576 : Int) < (len : Int) := by omega
    go_enter Try.func5, Try.ntmps5
    go_wp2_with fail
    go_ret
    exact ⟨rfl, Below.refl _ _⟩
  · have hbig2 : (len : Int) ≤ 1048576 := by omega
    go_enter Try.func5, Try.ntmps5
    go_wp2_with fail
    refine (drawWords a len cap w h).mono ?_
    rintro e w1 ⟨⟨v1, l, rfl, o1, hl⟩, b1⟩
    go_wp2_with fail
    refine (implWords v1 l w1 o1.arg (by omega)).mono ?_
    rintro e w2 ⟨⟨v2, rfl, o2⟩, b2⟩
    have B2 := bstep b1 b2
    have hwl := wdsR_len l
    go_wp2_with fail
    refine (specWords v1 l w2 (o1.below b2).arg (by omega)).mono ?_
    rintro e w3 ⟨⟨v3, rfl, o3⟩, b3⟩
    have B3 := bstep B2 b3
    go_wp2_with fail
    refine (wcInts_yes _ _ (wdsR l) _ (o2.below b3).arg o3.arg (by omega)).mono ?_
    rintro e w4 ⟨rfl, b4⟩
    have B4 := bstep B3 b4
    go_wp2_with fail
    refine (implBreaks v1 l w4 (((o1.below b2).below b3).below b4).arg (by omega)).mono ?_
    rintro e w5 ⟨⟨v5, rfl, o5⟩, b5⟩
    have B5 := bstep B4 b5
    have oW := ((o2.below b3).below b4).below b5
    have oL := (((o1.below b2).below b3).below b4).below b5
    clear o1 o2 o3 b1 b2 b3 b4 b5 B2 B3 B4
    obtain ⟨R, hR⟩ : ∃ R, brkR l = R := ⟨_, rfl⟩
    obtain ⟨W, hW⟩ : ∃ W, wdsR l = W := ⟨_, rfl⟩
    rw [hR] at o5
    rw [hW] at oW hwl
    have hWR : W = wdsN (fn R) R.length := by rw [← hW, ← hR]; rfl
    by_cases h0 : R = []
    · have hW0 : W = [] := by rw [hWR, h0]; rfl
      subst h0
      subst hW0
      clear hWR hW hR
      rcases oW.forms with ⟨rfl, _⟩ | ⟨gw, cw, rfl, _⟩
      all_goals
        rcases o5.forms with ⟨rfl, _⟩ | ⟨gb, cb, rfl, _⟩
        all_goals
          go_wp2_with fail
          go_rounds 1
          go_ret
          exact ⟨rfl, B5⟩
    · have hok : okF (fn l) l.length = true := by
        cases hk : okF (fn l) l.length with
        | true => rfl
        | false => exfalso; apply h0; rw [← hR]; simp [brkR, hk]
      have hRL : R = brkL l := by rw [← hR]; simp [brkR, hok]
      have hRn : R.length = l.length := by rw [hRL, brkL_len]
      obtain ⟨m, hm⟩ : ∃ m, R.length = m + 1 := ⟨R.length - 1, by
        cases R with
        | nil => exact absurd rfl h0
        | cons => simp⟩
      have hlast : fn R m ≠ 0 := by
        rw [hRL, fn_brkL (by omega), ← hRn, hm]; unfold brkAt; rw [if_pos rfl]; decide
      have hWl : fn W (W.length - 1) = (m : Int) + 1 := by rw [hWR, hm]; exact wds_last hlast
      have hW1 : W.length ≠ 0 := by
        intro e
        have := (wds_get (z := fn R) (i := m) (N := m + 1) (by omega) hlast).1
        rw [← hm, ← hWR, e] at this
        omega
      obtain ⟨M, hM⟩ : ∃ M, W.length = M + 1 := ⟨W.length - 1, by omega⟩
      have HG : Hid (∀ i, i < m + 1 → fn R i ≠ 0 → (wdsN (fn R) i).length < M + 1 ∧ fn W (wdsN (fn R) i).length = (i : Int) + 1) := by
        intro i hi q
        have := wds_get (z := fn R) (i := i) (N := R.length) (by omega) q
        rw [← hWR, hM] at this
        exact this
      have HEnd : Hid ((wdsN (fn R) (m + 1)).length = M + 1) := by show _ = _; rw [← hM, hWR, hm]
      rw [hM] at hWl
      obtain ⟨gw, cw, rfl⟩ : ∃ g c, v2 = .slice (some ⟨g, 0, none⟩) (M + 1) c := by
        rcases oW.forms with ⟨_, e⟩ | ⟨g, c, e, _⟩
        · exfalso; apply hW1; rw [e]; rfl
        · rw [hM] at e; exact ⟨g, c, e⟩
      obtain ⟨gb, cb, rfl⟩ : ∃ g c, v5 = .slice (some ⟨g, 0, none⟩) (m + 1) c := by
        rcases o5.forms with ⟨_, e⟩ | ⟨g, c, e, _⟩
        · exact absurd e h0
        · rw [hm] at e; exact ⟨g, c, e⟩
      obtain ⟨gl, cl, rfl⟩ : ∃ g c, v1 = .slice (some ⟨g, 0, none⟩) (m + 1) c := by
        rcases oL.forms with ⟨_, e⟩ | ⟨g, c, e, _⟩
        · exfalso; rw [e] at hRn; rw [hm] at hRn; simp at hRn
        · rw [← hRn, hm] at e; exact ⟨g, c, e⟩
      have HCW : Hid (∀ j, j < M + 1 → w5.cell? ⟨gw, j, none⟩ = some (.int .i64 (fn W j))) := fun j hj => oW.cellN j hj
      have HCB : Hid (∀ j, j < m + 1 → w5.cell? ⟨gb, j, none⟩ = some (.int .i64 (fn R j))) := fun j hj => o5.cellN j hj
      have hM80 : M + 1 ≤ 81 := by omega
      have hm80 : m + 1 ≤ 81 := by omega
      have HWl : Hid _ := hWl
      clear hWR hW hR hRL hRn hlast hWl hW1 hM hm hok oW o5 oL h0 hwl
      go_wp2_with fail
      go_loop [6, 7] (fun q i => ∃ k c : Nat, k ≤ m + 1 ∧ i = .int .i64 k ∧ q = .int .i64 c ∧ c ≤ k ∧ Hid ((wdsN (fn R) k).length = c)) (fun _ i => (m + 1) - (intOf i).toNat)
      case atStart => exact ⟨0, 0, by omega, rfl, rfl, by omega, rfl⟩
      case round =>
        obtain ⟨k, c, hk, rfl, rfl, hck, hc⟩ := hrel
        by_cases hlt : k < m + 1
        · have cb0 := HCB.out k hlt
          have i1 : (k : Int) < (m : Int) + 1 := by omega
          by_cases q : fn R k = 0
          · have gq : (fn R k == 0) = true := by simpa using q
            have HS : Hid ((wdsN (fn R) (k + 1)).length = c) := by show _ = _; simp only [wdsN]; rw [if_pos q]; exact hc.out
            clear q
            go_wp2_with fail
            exact ⟨⟨k + 1, c, by omega, by go_num, rfl, by omega, HS⟩, by simp only [intOf]; omega⟩
          · have gq : (fn R k == 0) = false := by simpa using q
            have HS : Hid ((wdsN (fn R) (k + 1)).length = c + 1) := by show _ = _; simp only [wdsN]; rw [if_neg q, List.length_append, hc.out]; rfl
            obtain ⟨hg1, hg2⟩ := HG.out k hlt q
            rw [hc.out] at hg1 hg2
            have cw0 := HCW.out c hg1
            rw [hg2] at cw0
            have i2 : (c : Int) < (M : Int) + 1 := by omega
            clear hg2 q
            go_wp2_with fail
            exact ⟨⟨k + 1, c + 1, by omega, by go_num, by go_num, by omega, HS⟩, by simp only [intOf]; omega⟩
        · have e : k = m + 1 := by omega
          subst e
          have e2 : c = M + 1 := by rw [← hc.out]; exact HEnd.out
          subst e2
          have cw0 := HCW.out M (by omega)
          have e3 : fn W M = (m : Int) + 1 := HWl.out
          rw [e3] at cw0
          clear e3
          go_wp2_with fail
          go_ret
          exact ⟨rfl, B5⟩
end Go.Proofs.Ytbjcdogbhnadkad
