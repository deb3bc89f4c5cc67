import Derived.Test.YtgojdlbidjnmmaaGreatWeakS2
import Derived.Test.YtgojdlbidjnmmaaGreatWeakTop
namespace Go.Proofs.YtgojdlbidjnmmaaGreat
open Go.ChangeShapes Go.WideShapes Go.ChangeAt Go.RowKit
set_option linter.unusedSimpArgs false

theorem strong_cong {x z : Nat → Int} {b : Int} {k : Nat} (h : ∀ j, j < k → x j = z j ∨ (z j = 4 ∧ x j = 7)) : strong x b k = strong z b k := by
  induction k with
  | zero => rfl
  | succ k ih =>
    have ih := ih (fun j hj => h j (by omega))
    simp only [strong]
    rcases h k (by omega) with e | ⟨e1, e2⟩
    · rw [e, ih]
    · rw [e1, e2, if_neg (by omega), if_neg (by omega), ih]
theorem strong_next {x : Nat → Int} {b : Int} {f : Nat} (h : x f = 4) : strong x b (f + 1) = strong x b f := by
  simp only [strong]; rw [if_neg (by omega)]
theorem m2_is {z : Nat → Int} {b : Int} {j : Nat} : m2 z b j = z j ∨ (z j = 4 ∧ m2 z b j = 7) := by
  unfold m2; split
  · rename_i h; exact .inr ⟨h.1, rfl⟩
  · exact .inl rfl
/-- What the row in work says of the last strong class is what the row says. -/
theorem Ruling.strong2 {w wr : World} {B g n cp f : Nat} {z : Nat → Int} {b : Int} (h : Ruling w wr B g n cp f (m2 z b) z) (hf : f < n) (h4 : z f = 4) :
    ∃ x : Nat → Int, (∀ j, j < n → wr.cell? ⟨g, j, none⟩ = some (.int .i64 (x j))) ∧ strong x b (f + 1) = strong z b f := by
  obtain ⟨L, a, u, _⟩ := h
  refine ⟨fn L, fun j hj => a.cellN j hj, ?_⟩
  rw [strong_next (by rw [u.2 f (Nat.le_refl _) hf]; exact h4)]
  exact strong_cong (fun j hj => by rw [u.1 j hj]; exact m2_is)
theorem Ruling.strong7 {w wr : World} {B g n cp f : Nat} {z : Nat → Int} {b : Int} (h : Ruling w wr B g n cp f (m7 z b) z) (hf : f < n) (h4 : z f = 4) :
    ∃ x : Nat → Int, (∀ j, j < n → wr.cell? ⟨g, j, none⟩ = some (.int .i64 (x j))) ∧ strong x b (f + 1) = strong z b f := by
  obtain ⟨L, a, u, _⟩ := h
  refine ⟨fn L, fun j hj => a.cellN j hj, ?_⟩
  rw [strong_next (by rw [u.2 f (Nat.le_refl _) hf]; exact h4)]
  exact strong_m7 (n := f) (fun j hj => u.1 j hj) f (Nat.le_refl _)
/-- Where a rule has come to, seen from the beginning. -/
structure Come (w wr : World) (g n cp : Nat) (L : List Int) : Prop where
  own : OwnI wr w.heap.size (.slice (some ⟨g, 0, none⟩) n cp) L
  bel : Below w.heap.size w wr
theorem Come.next {w wr w' : World} {g n cp : Nat} {L L' : List Int} (h : Come w wr g n cp L) (hr : Ruled wr w' w.heap.size g n cp L') (hg : w.heap.size ≤ g) : Come w w' g n cp L' :=
  ⟨hr.1, h.bel.grown hr.2.1 h.bel.size (fun k hk => by cases hk; exact hg)⟩

set_option maxRecDepth 10000 in
set_option maxHeartbeats 8000000 in
theorem specWeak_row (ba off cap n : Nat) (l : List Int) (b : Int) (w : World) (hn : Hid (l.length = n)) (hn0 : 0 < n) (hl : n ≤ 80) (hb : ba < w.heap.size) (hat : At w ba off l) (h1 : Hid (sideB b = true)) :
    Calls Tryz.prog 76 #[.slice (some ⟨ba, off, none⟩) n cap, .int .i64 b] w fun e w' => (∃ v', e = .returned v' ∧ OwnI w' w.heap.size v' (weakL l b)) ∧ Below w.heap.size w w' := by
  have ho := own_empty w w.heap.size 3 (Nat.le_refl _) rfl
  have hat2 : At (w.alloc (.cells #[] 3)) ba off l := hat.below (B := w.heap.size) ((Below.refl _ _).alloc (Nat.le_refl _) _) hb
  have HB12 : Hid (b = 1 ∨ b = 2) := by
    show b = 1 ∨ b = 2
    have := h1.out
    unfold sideB at this
    exact of_decide_eq_true this
  have HLEN : Hid (∀ k, (stg l b k).length = n) := fun k => by rw [stg_len, hn.out]
  go_enter Tryz.func76, Tryz.ntmps76
  go_wp2_with (at_builtin; refine own_appendAll (.tmp 10) (.tmp 11) ho hn.out (by simp; omega) (by simp) hat2 rfl rfl rfl rfl ?_; intro v4 w4 o4 gr4; have tok : True := trivial)
  have b4 : Below w.heap.size w w4 := by
    refine ((Below.refl _ _).alloc (Nat.le_refl _) _).grown gr4 (by simp) (fun k hk => ?_)
    simp [Value.ownBlock] at hk
    omega
  simp only [List.nil_append] at o4
  obtain ⟨g, cp, rfl, hg, hgw, hncp⟩ : ∃ g cp, v4 = .slice (some ⟨g, 0, none⟩) n cp ∧ w.heap.size ≤ g ∧ g < w4.heap.size ∧ n ≤ cp := by
    rcases o4.forms with ⟨_, e⟩ | ⟨g, cp, e, e1, e2, e3, _⟩
    · exfalso; have := hn.out; rw [e] at this; simp at this; omega
    · rw [hn.out] at e e3; exact ⟨g, cp, e, e1, e2, e3⟩
  have C0 : Hid (Come w w4 g n cp (stg l b 0)) := ⟨o4, b4⟩
  clear hat2 ho gr4 hat o4 b4
  go_wp2_with fail
  refine (specR1 g n cp _ b HB12 (stg l b 0) w4 (HLEN.out 0) C0.out.own hl).mono ?_
  rintro e w5 ⟨rfl, hru⟩
  have C1 : Hid (Come w w5 g n cp (stg l b 1)) := C0.out.next hru hg
  clear hru
  go_wp2_with fail
  go_loopw [6] (fun i wr => ∃ f : Nat, f ≤ n ∧ i = .int .i64 f ∧ Hid (Ruling w5 wr w.heap.size g n cp f (m2 (fn (stg l b 1)) b) (fn (stg l b 1)))) (fun i _ => n - (intOf i).toNat)
  case atStart => exact ⟨0, Nat.zero_le _, rfl, Ruling.start C1.out.own⟩
  case round =>
    obtain ⟨f, hf, rfl, hr⟩ := hrel
    by_cases hlt : f < n
    · have c := hr.out.cell (Nat.le_refl _) hlt
      have fz := hr.out.free f
      obtain ⟨X, hX⟩ : ∃ X, fn (stg l b 1) f = X := ⟨_, rfl⟩
      have HX : Hid _ := hX
      rw [hX] at c
      clear hX
      by_cases e4 : X = 4
      · subst e4
        obtain ⟨x, hx, hst⟩ := hr.out.strong2 hlt HX.out
        have HXX : Hid _ := hx
        obtain ⟨s, hs⟩ : ∃ s, strong (fn (stg l b 1)) b f = s := ⟨_, rfl⟩
        have HST : Hid (strong x b (f + 1) = s) := hst.trans hs
        have HS : Hid _ := hs
        clear hx hst hs
        by_cases es : s = 3
        · subst es
          go_wp2_with (go_at_call 123; refine (specStrong g n cp x b f _ HXX hlt hl).mono ?_; rintro e w' ⟨rfl, rfl⟩; rw [HST.out])
          go_roundw
          case rel => exact ⟨f + 1, by omega, by go_num, hr.out.set hlt (by unfold m2; rw [if_pos ⟨HX.out, HS.out⟩])⟩
          case measure => simp only [intOf]; omega
        · have gs : (s == 3) = false := by simpa using es
          go_wp2_with (go_at_call 123; refine (specStrong g n cp x b f _ HXX hlt hl).mono ?_; rintro e w' ⟨rfl, rfl⟩; rw [HST.out])
          go_roundw
          case rel => exact ⟨f + 1, by omega, by go_num, hr.out.keep hlt (by unfold m2; rw [if_neg (fun h => es (HS.out.symm.trans h.2))])⟩
          case measure => simp only [intOf]; omega
      · have g4 : (X == 4) = false := by simpa using e4
        go_wp2_with fail
        go_roundw
        case rel => exact ⟨f + 1, by omega, by go_num, hr.out.keep hlt (by unfold m2; rw [if_neg (fun h => e4 (HX.out.symm.trans h.1))])⟩
        case measure => simp only [intOf]; omega
    · have e : f = n := by omega
      subst e
      have C2 : Hid (Come w wr g f cp (stg l b 2)) := by
        have := hr.out.fin
        refine C1.out.next ?_ hg
        have e2 : stg l b 2 = mkL f (m2 (fn (stg l b 1)) b) := by show mkL (stg l b 1).length _ = _; rw [HLEN.out 1]; rfl
        rw [e2]; exact this
      clear hr
      obtain ⟨w6, rfl⟩ : ∃ w6 : World, w6 = wr := ⟨_, rfl⟩
      obtain ⟨n, rfl⟩ : ∃ n : Nat, n = f := ⟨_, rfl⟩
      go_wp2_with fail
      go_loopw [7] (fun i wr => ∃ f : Nat, f ≤ n ∧ i = .int .i64 f ∧ Hid (Ruling w6 wr w.heap.size g n cp f (m3 (fn (stg l b 2))) (fn (stg l b 2)))) (fun i _ => n - (intOf i).toNat)
      case atStart => exact ⟨0, Nat.zero_le _, rfl, Ruling.start C2.out.own⟩
      case round =>
        obtain ⟨f, hf, rfl, hr⟩ := hrel
        by_cases hlt : f < n
        · have c := hr.out.cell (Nat.le_refl _) hlt
          have fz := hr.out.free f
          obtain ⟨X, hX⟩ : ∃ X, fn (stg l b 2) f = X := ⟨_, rfl⟩
          have HX : Hid _ := hX
          rw [hX] at c
          clear hX
          by_cases e3 : X = 3
          · subst e3
            go_wp2_with fail
            go_roundw
            case rel => exact ⟨f + 1, by omega, by go_num, hr.out.set hlt (by unfold m3; rw [if_pos HX.out])⟩
            case measure => simp only [intOf]; omega
          · have g3 : (X == 3) = false := by simpa using e3
            go_wp2_with fail
            go_roundw
            case rel => exact ⟨f + 1, by omega, by go_num, hr.out.keep hlt (by unfold m3; rw [if_neg (fun h => e3 (HX.out.symm.trans h))])⟩
            case measure => simp only [intOf]; omega
        · have e : f = n := by omega
          subst e
          have C3 : Hid (Come w wr g f cp (stg l b 3)) := by
            have := hr.out.fin
            refine C2.out.next ?_ hg
            have e2 : stg l b 3 = mkL f (m3 (fn (stg l b 2))) := by show mkL (stg l b 2).length _ = _; rw [HLEN.out 2]; rfl
            rw [e2]; exact this
          clear hr
          obtain ⟨w7, rfl⟩ : ∃ w6 : World, w6 = wr := ⟨_, rfl⟩
          obtain ⟨n, rfl⟩ : ∃ n : Nat, n = f := ⟨_, rfl⟩
          go_wp2_with fail
          refine (specR4 g n cp _ (stg l b 3) w7 (HLEN.out 3) C3.out.own hn0 hl).mono ?_
          rintro e w8 ⟨rfl, hru⟩
          have C4 : Hid (Come w w8 g n cp (stg l b 4)) := C3.out.next hru hg
          clear hru
          go_wp2_with fail
          refine (specR5 g n cp _ (stg l b 4) w8 (HLEN.out 4) C4.out.own hl).mono ?_
          rintro e w9 ⟨rfl, hru⟩
          have C5 : Hid (Come w w9 g n cp (stg l b 5)) := C4.out.next hru hg
          clear hru
          go_wp2_with fail
          go_loopw [8] (fun i wr => ∃ f : Nat, f ≤ n ∧ i = .int .i64 f ∧ Hid (Ruling w9 wr w.heap.size g n cp f (m6 (fn (stg l b 5))) (fn (stg l b 5)))) (fun i _ => n - (intOf i).toNat)
          case atStart => exact ⟨0, Nat.zero_le _, rfl, Ruling.start C5.out.own⟩
          case round =>
            obtain ⟨f, hf, rfl, hr⟩ := hrel
            by_cases hlt : f < n
            · have c := hr.out.cell (Nat.le_refl _) hlt
              have fz := hr.out.free f
              obtain ⟨X, hX⟩ : ∃ X, fn (stg l b 5) f = X := ⟨_, rfl⟩
              have HX : Hid _ := hX
              rw [hX] at c
              clear hX
              by_cases e56 : X = 5 ∨ X = 6
              · have HI : Hid (inB X 5 6 = true) := by show _ = _; simp only [inB, decide_eq_true_eq]; omega
                have HM : Hid (m6 (fn (stg l b 5)) f = 13) := by show _ = _; unfold m6; rw [if_pos (by rw [HX.out]; omega)]
                clear e56
                go_wp2_with (go_at_call 29; refine (specIn _ _ _ _).mono ?_; rintro e w' ⟨rfl, rfl⟩; rw [HI.out])
                go_roundw
                case rel => exact ⟨f + 1, by omega, by go_num, hr.out.set hlt HM.out⟩
                case measure => simp only [intOf]; omega
              · have HI : Hid (inB X 5 6 = false) := by show _ = _; simp only [inB, decide_eq_false_iff_not]; omega
                by_cases e8 : X = 8
                · subst e8
                  have HM : Hid (m6 (fn (stg l b 5)) f = 13) := by show _ = _; unfold m6; rw [if_pos (by rw [HX.out]; omega)]
                  clear e56
                  go_wp2_with (go_at_call 29; refine (specIn _ _ _ _).mono ?_; rintro e w' ⟨rfl, rfl⟩; rw [HI.out])
                  go_roundw
                  case rel => exact ⟨f + 1, by omega, by go_num, hr.out.set hlt HM.out⟩
                  case measure => simp only [intOf]; omega
                · have g8 : (X == 8) = false := by simpa using e8
                  have HM : Hid (m6 (fn (stg l b 5)) f = fn (stg l b 5) f) := by show _ = _; unfold m6; rw [if_neg (by rw [HX.out]; omega)]
                  clear e56 e8
                  go_wp2_with (go_at_call 29; refine (specIn _ _ _ _).mono ?_; rintro e w' ⟨rfl, rfl⟩; rw [HI.out])
                  go_roundw
                  case rel => exact ⟨f + 1, by omega, by go_num, hr.out.keep hlt HM.out⟩
                  case measure => simp only [intOf]; omega
            · have e : f = n := by omega
              subst e
              have C6 : Hid (Come w wr g f cp (stg l b 6)) := by
                have := hr.out.fin
                refine C5.out.next ?_ hg
                have e2 : stg l b 6 = mkL f (m6 (fn (stg l b 5))) := by show mkL (stg l b 5).length _ = _; rw [HLEN.out 5]; rfl
                rw [e2]; exact this
              clear hr
              obtain ⟨w10, rfl⟩ : ∃ w6 : World, w6 = wr := ⟨_, rfl⟩
              obtain ⟨n, rfl⟩ : ∃ n : Nat, n = f := ⟨_, rfl⟩
              go_wp2_with fail
              go_loopw [9] (fun i wr => ∃ f : Nat, f ≤ n ∧ i = .int .i64 f ∧ Hid (Ruling w10 wr w.heap.size g n cp f (m7 (fn (stg l b 6)) b) (fn (stg l b 6)))) (fun i _ => n - (intOf i).toNat)
              case atStart => exact ⟨0, Nat.zero_le _, rfl, Ruling.start C6.out.own⟩
              case round =>
                obtain ⟨f, hf, rfl, hr⟩ := hrel
                by_cases hlt : f < n
                · have c := hr.out.cell (Nat.le_refl _) hlt
                  have fz := hr.out.free f
                  obtain ⟨X, hX⟩ : ∃ X, fn (stg l b 6) f = X := ⟨_, rfl⟩
                  have HX : Hid _ := hX
                  rw [hX] at c
                  clear hX
                  by_cases e4 : X = 4
                  · subst e4
                    obtain ⟨x, hx, hst⟩ := hr.out.strong7 hlt HX.out
                    have HXX : Hid _ := hx
                    obtain ⟨s, hs⟩ : ∃ s, strong (fn (stg l b 6)) b f = s := ⟨_, rfl⟩
                    have HST : Hid (strong x b (f + 1) = s) := hst.trans hs
                    have HS : Hid _ := hs
                    clear hx hst hs
                    by_cases es : s = 1
                    · subst es
                      go_wp2_with (go_at_call 123; refine (specStrong g n cp x b f _ HXX hlt hl).mono ?_; rintro e w' ⟨rfl, rfl⟩; rw [HST.out])
                      go_roundw
                      case rel => exact ⟨f + 1, by omega, by go_num, hr.out.set hlt (by unfold m7; rw [if_pos ⟨HX.out, HS.out⟩])⟩
                      case measure => simp only [intOf]; omega
                    · have gs : (s == 1) = false := by simpa using es
                      go_wp2_with (go_at_call 123; refine (specStrong g n cp x b f _ HXX hlt hl).mono ?_; rintro e w' ⟨rfl, rfl⟩; rw [HST.out])
                      go_roundw
                      case rel => exact ⟨f + 1, by omega, by go_num, hr.out.keep hlt (by unfold m7; rw [if_neg (fun h => es (HS.out.symm.trans h.2))])⟩
                      case measure => simp only [intOf]; omega
                  · have g4 : (X == 4) = false := by simpa using e4
                    go_wp2_with fail
                    go_roundw
                    case rel => exact ⟨f + 1, by omega, by go_num, hr.out.keep hlt (by unfold m7; rw [if_neg (fun h => e4 (HX.out.symm.trans h.1))])⟩
                    case measure => simp only [intOf]; omega
                · have e : f = n := by omega
                  subst e
                  have C7 : Hid (Come w wr g f cp (weakL l b)) := by
                    have := hr.out.fin
                    refine C6.out.next ?_ hg
                    have e2 : weakL l b = mkL f (m7 (fn (stg l b 6)) b) := by show mkL (stg l b 6).length _ = _; rw [HLEN.out 6]; rfl
                    rw [e2]; exact this
                  clear hr
                  go_wp2_with fail
                  go_ret
                  exact ⟨⟨_, rfl, C7.out.own⟩, C7.out.bel⟩
end Go.Proofs.YtgojdlbidjnmmaaGreat
