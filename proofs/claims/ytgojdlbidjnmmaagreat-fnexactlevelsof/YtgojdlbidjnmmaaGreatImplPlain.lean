import Derived.Test.YtgojdlbidjnmmaaGreatPlainFn
import Derived.Test.YtgojdlbidjnmmaaGreatClsOk
import Derived.Test.YtgojdlbidjnmmaaGreatFillAt
import Derived.Test.YtgojdlbidjnmmaaGreatClone
import Derived.Test.YtgojdlbidjnmmaaGreatGrow
import Derived.Deep.RegionWith
import Derived.Deep.DrawnRows
namespace Go.Proofs.YtgojdlbidjnmmaaGreat
open Go.ChangeShapes Go.WideShapes Go.ChangeAt Go.RowKit
set_option linter.unusedSimpArgs false
attribute [local go_sem ↓] Go.wp_at_zero Go.wp_at_succ

/-- How far the row has been done: ahead of f as it shall be, from f on as it was. -/
def doneTo (z : Nat → Int) (n : Nat) (before after lv : Int) (f : Nat) (L : List Int) : Prop :=
  (∀ j, j < f → fn L j = plainAt z n before after lv j) ∧ ∀ j, f ≤ j → j < n → fn L j = z j

theorem done_step {z : Nat → Int} {n : Nat} {before after lv r : Int} {f t : Nat} {L L7 : List Int} (h : doneTo z n before after lv f L) (hft : f ≤ t) (htn : t ≤ n) (hrun : ∀ j, f ≤ j → j < t → noP (z j) = true)
    (hr : among (ahP z before f) (bhP z n after (n - t)) lv = r) (h7 : ∀ j, j < n → fn L7 j = if f ≤ j ∧ j < f + (t - f) then r else fn L j) : doneTo z n before after lv t L7 := by
  refine ⟨fun j hj => ?_, fun j h1 h2 => ?_⟩
  · rw [h7 j (by omega)]
    by_cases e : f ≤ j
    · rw [if_pos (by omega), plain_run htn hrun e hj]; exact hr.symm
    · rw [if_neg (by omega)]; exact h.1 j (by omega)
  · rw [h7 j h2, if_neg (by omega)]; exact h.2 j (by omega) h2

set_option maxHeartbeats 8000000 in
theorem implPlain_row (b off cap n : Nat) (l : List Int) (before after lv : Int) (w : World) (hn : Hid (l.length = n)) (hn0 : 0 < n) (hl : n ≤ 80) (hlc : n ≤ cap) (hcm : cap ≤ maxLen) (hb : b < w.heap.size) (hat : At w b off l) (hok : Hid (clsOk (fn l) n = true)) (h1 : Hid (sideB before = true)) (h2 : Hid (sideB after = true)) (h3 : 0 ≤ lv) (h4 : lv ≤ 22) :
    Calls Tryz.prog 69 #[.slice (some ⟨b, off, none⟩) n cap, .int .i64 before, .int .i64 after, .int .i64 lv] w fun e w' => (∃ v', e = .returned v' ∧ OwnI w' w.heap.size v' (plainL l before after lv)) ∧ Below w.heap.size w w' := by
  have HA : Arg w (.slice (some ⟨b, off, none⟩) n cap) l := .inr ⟨b, off, cap, by rw [hn.out], hb, by rw [hn.out]; exact hlc, hcm, hat⟩
  go_enter Tryz.func69, Tryz.ntmps69
  go_wp2_with fail
  refine (implCls _ l n w hn.out HA (by omega)).mono ?_
  rintro e w1 ⟨rfl, rfl⟩
  rw [hok.out]
  go_wp2_with fail
  refine (implSide? _ _).mono ?_
  rintro e w2 ⟨rfl, rfl⟩
  rw [h1.out]
  go_wp2_with fail
  refine (implSide? _ _).mono ?_
  rintro e w3 ⟨rfl, rfl⟩
  rw [h2.out]
  go_wp2_with fail
  refine (clone_row b off n cap l _ hn.out (by omega) hat hb).mono ?_
  rintro e w4 ⟨⟨v4, rfl, o4⟩, b4⟩
  obtain ⟨g, cp, rfl, hg, hgw, hncp⟩ : ∃ g cp, v4 = .slice (some ⟨g, 0, none⟩) n cp ∧ w3.heap.size ≤ g ∧ g < w4.heap.size ∧ n ≤ cp := by
    rcases o4.forms with ⟨_, e⟩ | ⟨g, cp, e, e1, e2, e3, _⟩
    · exfalso; have := hn.out; rw [e] at this; simp at this; omega
    · rw [hn.out] at e e3; exact ⟨g, cp, e, e1, e2, e3⟩
  go_wp2_with fail
  go_loopw [10, 11] (fun q i wr => ∃ (f : Nat) (L : List Int), f ≤ n ∧ i = .int .i64 f ∧ q = .int .i64 (ahP (fn l) before f) ∧ OwnI wr w3.heap.size (.slice (some ⟨g, 0, none⟩) n cp) L ∧ Hid (doneTo (fn l) n before after lv f L) ∧ Below w3.heap.size w3 wr) (fun _ i _ => n - (intOf i).toNat)
  case atStart => exact ⟨0, l, Nat.zero_le _, rfl, rfl, o4, ⟨fun j hj => by omega, fun j _ _ => rfl⟩, b4⟩
  case round =>
    obtain ⟨f, L, hf, rfl, rfl, hown, hinv, hbel⟩ := hrel
    by_cases hlt : f < n
    · have hcell : ∀ j, f ≤ j → j < n → wr.cell? ⟨g, j, none⟩ = some (.int .i64 (fn l j)) := fun j h1 h2 => by rw [hown.cellN j h2, hinv.out.2 j h1 h2]
      have HC : Hid _ := hcell
      clear hcell
      have c0 := HC.out f (Nat.le_refl _) hlt
      by_cases hq : noP (fn l f) = true
      · have HQ : Hid _ := hq
        clear hq
        go_wp2_with (go_at_call 112; refine (implPlain? _ _).mono ?_; rintro e w5 ⟨rfl, rfl⟩; rw [HQ.out])
        go_loop [12] (fun t => ∃ (t' : Nat), f < t' ∧ t' ≤ n ∧ t = .int .i64 t' ∧ Hid (∀ j, f ≤ j → j < t' → noP (fn l j) = true)) (fun t => n - (intOf t).toNat)
        case atStart => exact ⟨f + 1, by omega, by omega, by go_num, fun j h1 h2 => by
          have : j = f := by omega
          subst this; exact HQ.out⟩
        case round =>
          obtain ⟨t, hft, htn, rfl, hrun⟩ := hrel
          by_cases htl : t < n
          · have ct := HC.out t (by omega) htl
            have hti : (t : Int) < (n : Int) := by omega
            by_cases hqt : noP (fn l t) = true
            · have HT : Hid _ := hqt
              clear hqt
              go_wp2_with (go_at_call 112; refine (implPlain? _ _).mono ?_; rintro e w5 ⟨rfl, rfl⟩; rw [HT.out])
              refine ⟨⟨t + 1, by omega, by omega, by go_num, fun j h1 h2 => ?_⟩, by simp only [intOf]; omega⟩
              by_cases e : j = t
              · subst e; exact HT.out
              · exact hrun.out j h1 (by omega)
            · have hqt' : noP (fn l t) = false := by simpa using hqt
              have HT : Hid _ := hqt'
              clear hqt hqt'
              have g1 : (f : Int) ≤ (t : Int) := by omega
              have g2 : (t : Int) ≤ (cp : Int) := by omega
              have g3 : (f : Int) < (cp : Int) := by omega
              obtain ⟨r, hr⟩ : ∃ r, among (ahP (fn l) before f) (fn l t) lv = r := ⟨_, rfl⟩
              have HR : Hid _ := hr
              clear hr
              go_wp2_with (go_at_call 112; refine (implPlain? _ _).mono ?_; rintro e w5 ⟨rfl, rfl⟩; rw [HT.out])
              go_region_with (first | (go_at_call 113; refine (implAmong _ _ _ _ h3 r HR).mono ?_; rintro e w6 ⟨rfl, rfl⟩) | (go_at_call 53; refine (fill_at g f (t - f) _ n cp L _ r _ (by exact hown.drewN 1) (by omega) (by omega)).mono ?_; rintro e w7 ⟨rfl, ⟨L7, hown7, hL7⟩, hgr7, hsz7⟩))
              all_goals (go_wp2_with fail)
              all_goals (refine ⟨⟨t, L7, by omega, by go_num, by rw [ahP_run (f := f) (t := t) (by omega) hrun.out], hown7, ?_, (hbel.drew).grown hgr7 hbel.size (fun k hk => by cases hk; exact hg)⟩, by simp only [intOf]; omega⟩)
              all_goals (refine done_step hinv.out (by omega) (by omega) hrun.out ?_ hL7.out; rw [bhP_hit htl HT.out]; exact HR.out)
          · have e : t = n := by omega
            have hti : ((t : Int) < (n : Int)) = False := by simp; omega
            have g1 : (f : Int) ≤ (t : Int) := by omega
            have g2 : (t : Int) ≤ (cp : Int) := by omega
            have g3 : (f : Int) < (cp : Int) := by omega
            obtain ⟨r, hr⟩ : ∃ r, among (ahP (fn l) before f) after lv = r := ⟨_, rfl⟩
            have HR : Hid _ := hr
            have HE : Hid _ := e
            clear hr e
            go_wp2_with fail
            go_region_with (first | (go_at_call 113; refine (implAmong _ _ _ _ h3 r HR).mono ?_; rintro e w6 ⟨rfl, rfl⟩) | (go_at_call 53; refine (fill_at g f (t - f) _ n cp L _ r _ (by exact hown.drewN 1) (by omega) (by omega)).mono ?_; rintro e w7 ⟨rfl, ⟨L7, hown7, hL7⟩, hgr7, hsz7⟩))
            all_goals (go_wp2_with fail)
            all_goals (refine ⟨⟨t, L7, by omega, by go_num, by rw [ahP_run (f := f) (t := t) (by omega) hrun.out], hown7, ?_, (hbel.drew).grown hgr7 hbel.size (fun k hk => by cases hk; exact hg)⟩, by simp only [intOf]; omega⟩)
            all_goals (refine done_step hinv.out (by omega) (by omega) hrun.out ?_ hL7.out; rw [show n - t = 0 by omega]; exact HR.out)
      · have hq' : noP (fn l f) = false := by simpa using hq
        have HQ : Hid _ := hq'
        clear hq hq'
        go_wp2_with (go_at_call 112; refine (implPlain? _ _).mono ?_; rintro e w5 ⟨rfl, rfl⟩; rw [HQ.out])
        refine ⟨⟨f + 1, L, by omega, by go_num, by rw [ahP_hit HQ.out], hown, ⟨fun j hj => ?_, fun j a c => hinv.out.2 j (by omega) c⟩, hbel⟩, by simp only [intOf]; omega⟩
        by_cases e : j = f
        · subst e; rw [plain_other HQ.out]; exact hinv.out.2 j (Nat.le_refl _) hlt
        · exact hinv.out.1 j (by omega)
    · have e : f = n := by omega
      subst e
      go_wp2_with fail
      go_ret
      have el : L = plainL l before after lv := by
        refine ext_fn (by rw [plainL_len, hn.out]; exact hown.len) (fun j hj => ?_)
        have hjn : j < f := by rw [← hown.len]; exact hj
        rw [fn_plainL (by rw [hn.out]; exact hjn), hn.out]; exact hinv.out.1 j hjn
      rw [el] at hown
      exact ⟨⟨_, rfl, hown⟩, hbel⟩
end Go.Proofs.YtgojdlbidjnmmaaGreat
