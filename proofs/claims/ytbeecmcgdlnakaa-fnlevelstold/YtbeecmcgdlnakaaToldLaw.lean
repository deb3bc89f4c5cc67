import Derived.Test.YtbeecmcgdlnakaaToldQ
import Derived.Test.YtbeecmcgdlnakaaDrawTold
import Derived.Test.YtbeecmcgdlnakaaToldP
import Derived.Test.YtbeecmcgdlnakaaToldI5
import Derived.Test.YtbeecmcgdlnakaaWc
import Derived.Test.YtbeecmcgdlnakaaBytesRow
import Derived.Test.YtbeecmcgdlnakaaWcIn
import Derived.Test.YtbeecmcgdlnakaaMtM
namespace Go.Proofs.Ytbeecmcgdlnakaa
open Go.ChangeShapes Go.WideShapes Go.ChangeAt Go.RowKit
set_option linter.unusedSimpArgs false
set_option linter.unusedVariables false

set_option maxRecDepth 10000 in
set_option maxHeartbeats 8000000 in
theorem toldLaw (a : Option Addr) (len cap : Nat) (w : World) (h : Bytes w a len cap) :
    Calls Try.prog 3 #[.slice a len cap] w fun e w' => e = .returned (.bool true) ∧ Below w.heap.size w w' := by
  by_cases hbig : 1048576 < len
  · have hbig2 : (1048576 : Int) < (len : Int) := by omega
    go_enter Try.func3, Try.ntmps3
    go_wp2_with fail
    go_ret
    exact ⟨rfl, Below.refl _ _⟩
  · have hl2 : (len : Int) ≤ 1048576 := by omega
    go_enter Try.func3, Try.ntmps3
    go_wp2_with fail
    refine (drawTold a len cap w h).mono ?_
    rintro e w1 ⟨⟨v, l, b, rfl, o1, hlen⟩, b1⟩
    obtain ⟨av, n, cv, rfl, hn⟩ := o1.slicZ
    have HN : Hid (l.length = n) := hn
    have hn81 : n ≤ 81 := by omega
    have HL6 : Hid (l.length ≤ 1048576) := show l.length ≤ 1048576 by omega
    obtain ⟨mt, hmt⟩ := mt_exists (cl l) l.length
    have HMT : Hid (MateFn (cl l) l.length mt) := hmt
    have hxl := toldL_le l mt b
    have hyl := toldC_le l mt b
    obtain ⟨X, hX⟩ : ∃ X, toldL l mt b = X := ⟨_, rfl⟩
    obtain ⟨Y, hY⟩ : ∃ Y, toldC l mt b = Y := ⟨_, rfl⟩
    rw [hX] at hxl
    rw [hY] at hyl
    have HX : Hid (toldL l mt b = X) := hX
    have HY : Hid (toldC l mt b = Y) := hY
    have HX4 : Hid (X.length ≤ 4194304) := show X.length ≤ 4194304 by omega
    have HY4 : Hid (Y.length ≤ 4194304) := show Y.length ≤ 4194304 by omega
    clear hn hX hY hmt
    go_wp2_with fail
    refine (implTold _ l mt b _ av cv (by rw [HN.out]) o1.arg HL6.out HMT).mono ?_
    rintro e w2 ⟨⟨vx, vy, rfl, ox2, oy2, _⟩, b2⟩
    rw [HX.out] at ox2
    rw [HY.out] at oy2
    have o2 := o1.below b2
    have B2 := bstep b1 b2
    go_wp2_with fail
    refine (specTold _ l mt b _ av cv (by rw [HN.out]) o2.arg HL6.out HMT).mono ?_
    rintro e w3 ⟨⟨v3, v4, rfl, p3, q3, _⟩, b3⟩
    rw [HX.out] at p3
    rw [HY.out] at q3
    have o3 := o2.below b3
    have ox3 := ox2.below b3
    have oy3 := oy2.below b3
    have B3 := bstep B2 b3
    go_wp2_with fail
    refine (wcInts_yes _ _ X _ ox3.arg p3.arg HX4.out).mono ?_
    rintro e w4 ⟨rfl, b4⟩
    have o4 := o3.below b4
    have ox4 := ox3.below b4
    have oy4 := oy3.below b4
    have p4 := p3.below b4
    have q4 := q3.below b4
    have B4 := bstep B3 b4
    go_wp2_with fail
    refine (wcInts_yes _ _ Y _ oy4.arg q4.arg HY4.out).mono ?_
    rintro e w5 ⟨rfl, b5⟩
    have o5 := o4.below b5
    have ox5 := ox4.below b5
    have oy5 := oy4.below b5
    have p5 := p4.below b5
    have q5 := q4.below b5
    have B5 := bstep B4 b5
    clear o1 o2 o3 o4 ox2 ox3 ox4 oy2 oy3 oy4 p3 p4 q3 q4 B2 B3 B4 b1 b2 b3 b4 b5
    obtain ⟨ax, nx, cx, rfl, hnx⟩ := ox5.slicZ
    obtain ⟨ay, ny, cy, rfl, hny⟩ := oy5.slicZ
    have HNX : Hid (X.length = nx) := hnx
    have HNY : Hid (Y.length = ny) := hny
    have hnxn : nx ≤ n := by have := HN.out; omega
    clear hnx hny hxl hyl
    by_cases hz : nx = 0
    · subst hz
      go_wp2_with fail
      refine (wcInts_yes _ _ X _ ox5.arg p5.arg HX4.out).mono ?_
      rintro e w6 ⟨rfl, b6⟩
      go_wp2_with fail
      refine (wcInts_yes _ _ Y _ (oy5.below b6).arg (q5.below b6).arg HY4.out).mono ?_
      rintro e w7 ⟨rfl, b7⟩
      go_wp2_with fail
      go_ret
      exact ⟨rfl, bstep (bstep B5 b6) b7⟩
    · have hok : okT l b = true := by
        by_cases h : okT l b = true
        · exact h
        · exfalso
          have hx := HX.out
          rw [(toldL_no h).1] at hx
          have := HNX.out
          rw [← hx] at this
          simp at this
          omega
      have hnn : nx = n := by rw [← HNX.out, ← HX.out, (toldL_yes hok).1, lvL_len, HN.out]
      have hnn2 : n = ny := by rw [← HNY.out, ← HY.out, (toldL_yes hok).2, clL_len, HN.out]
      subst hnn
      subst hnn2
      have HIS : Hid (∀ k, k < nx → ((cl l k = 10 ∨ (14 ≤ cl l k ∧ cl l k ≤ 18)) ∧ fn X k = -1) ∨ (¬ (cl l k = 10 ∨ (14 ≤ cl l k ∧ cl l k ≤ 18)) ∧ 0 ≤ fn X k ∧ fn X k ≤ 20 ∧ ((∀ j, j < k → cl l j < 14) → fn X k = b))) := fun k hk => by
        rw [← HX.out]; exact told_is hok (by rw [HN.out]; exact hk)
      clear hok hnxn
      have hnz : ((nx : Int) == 0) = false := by simp; omega
      rcases o5.forms with ⟨e, _⟩ | ⟨gl, cl', e, _, hgl, _, _, _⟩
      · simp only [Value.slice.injEq] at e; omega
      simp only [Value.slice.injEq] at e
      obtain ⟨rfl, -, rfl⟩ := e
      rcases ox5.forms with ⟨e, _⟩ | ⟨gx, cxx, e, _, hgx, _, _, _⟩
      · simp only [Value.slice.injEq] at e; omega
      simp only [Value.slice.injEq] at e
      obtain ⟨rfl, -, rfl⟩ := e
      have HO5 : Hid (∀ W, Below w5.heap.size w5 W → ∀ k, k < nx → W.cell? ⟨gl, k, none⟩ = some (.int .i64 (fn l k)) ∧ W.cell? ⟨gx, k, none⟩ = some (.int .i64 (fn X k))) := fun W hW k hk => ⟨(o5.below hW).cellN k hk, (ox5.below hW).cellN k hk⟩
      have HB5 : Hid (Below w.heap.size w w5) := B5
      clear o5 ox5 oy5 p5 q5 B5
      go_wp2_with fail
      go_loopw [9, 10] (fun t i wr => ∃ (k : Nat) (q : Bool), k ≤ nx ∧ i = .int .i64 k ∧ t = .bool q ∧ Hid (q = false → ∀ j, j < k → cl l j < 14) ∧ Hid (Below w5.heap.size w5 wr)) (fun _ i _ => nx - (intOf i).toNat)
      case atStart => exact ⟨0, false, Nat.zero_le _, rfl, rfl, fun _ j hj => by omega, Below.refl _ _⟩
      case round =>
        obtain ⟨k, q, hk, rfl, rfl, hq, hbel⟩ := hrel
        by_cases hlt : k < nx
        · obtain ⟨cl1, cx1⟩ := HO5.out _ hbel.out k hlt
          have his := HIS.out k hlt
          obtain ⟨R, hR⟩ : ∃ R, fn l k = R := ⟨_, rfl⟩
          obtain ⟨L, hL⟩ : ∃ L, fn X k = L := ⟨_, rfl⟩
          obtain ⟨c, hc⟩ : ∃ c, bidi R = c := ⟨_, rfl⟩
          have hcl : cl l k = c := by unfold cl; rw [hR, hc]
          rw [hR] at cl1
          rw [hL] at cx1 his
          rw [hcl] at his
          have HCL : Hid (cl l k = c) := hcl
          have HBI : Hid (∀ W, Calls Try.prog 13 #[.int .i64 R] W fun e w' => e = .returned (.int .i64 c) ∧ Below W.heap.size W w') := fun W => by rw [← hc]; exact specBidi R W
          have HO6 : Hid (∀ W, Below wr.heap.size wr W → W.cell? ⟨gx, k, none⟩ = some (.int .i64 L)) := fun W hW => by rw [← hL]; exact (HO5.out W (bstep hbel.out hW) k hlt).2
          have HNXT : Hid (∀ q2 : Bool, (q2 = false → q = false ∧ c < 14) → (q2 = false → ∀ j, j < k + 1 → cl l j < 14)) := fun q2 h1 h2 j hj => by
            obtain ⟨h3, h4⟩ := h1 h2
            by_cases e : j = k
            · subst e; rw [HCL.out]; exact h4
            · exact hq.out h3 j (by omega)
          clear hR hL hc hcl
          rcases his with ⟨hcc, rfl⟩ | ⟨hcc, hL0, hL20, hLb⟩
          · rcases hcc with rfl | ⟨h14, h18⟩
            · cases q
              · go_wp2_with (go_at_call 13; refine (HBI.out _).mono ?_; rintro e w6 ⟨rfl, b6⟩; have c6 := HO6.out _ b6; have B6 : Hid (Below wr.heap.size wr w6) := b6; clear b6)
                all_goals
                  go_roundw
                  case rel => exact ⟨k + 1, _, by omega, by go_num, rfl, HNXT.out _ (fun _ => by first | exact ⟨rfl, by omega⟩ | simp), bstep hbel.out B6.out⟩
                  case measure => simp only [intOf]; omega
              · go_wp2_with (go_at_call 13; refine (HBI.out _).mono ?_; rintro e w6 ⟨rfl, b6⟩; have c6 := HO6.out _ b6; have B6 : Hid (Below wr.heap.size wr w6) := b6; clear b6)
                all_goals
                  go_roundw
                  case rel => exact ⟨k + 1, _, by omega, by go_num, rfl, HNXT.out _ (fun e => by simp at e), bstep hbel.out B6.out⟩
                  case measure => simp only [intOf]; omega
            · have hc10 : (c == 10) = false := by simp; omega
              have hci : (14 : Int) ≤ c := h14
              have hwt : Hid (decide (14 ≤ c ∧ c ≤ 18) = true) := decide_eq_true ⟨h14, h18⟩
              cases q
              · go_wp2_with (first | (go_at_call 13; refine (HBI.out _).mono ?_; rintro e w6 ⟨rfl, b6⟩; have c6 := HO6.out _ b6; have B6 : Hid (Below wr.heap.size wr w6) := b6; clear b6) | (go_at_call 14; refine (wcIn_b c 14 18 _ true hwt).mono ?_; rintro e w7 ⟨rfl, hw7⟩; rw [hw7]; clear hw7 w7))
                all_goals
                  go_roundw
                  case rel => exact ⟨k + 1, _, by omega, by go_num, rfl, HNXT.out _ (fun e => by simp at e; try omega), bstep hbel.out B6.out⟩
                  case measure => simp only [intOf]; omega
              · go_wp2_with (first | (go_at_call 13; refine (HBI.out _).mono ?_; rintro e w6 ⟨rfl, b6⟩; have c6 := HO6.out _ b6; have B6 : Hid (Below wr.heap.size wr w6) := b6; clear b6) | (go_at_call 14; refine (wcIn_b c 14 18 _ true hwt).mono ?_; rintro e w7 ⟨rfl, hw7⟩; rw [hw7]; clear hw7 w7))
                all_goals
                  go_roundw
                  case rel => exact ⟨k + 1, _, by omega, by go_num, rfl, HNXT.out _ (fun e => by simp at e; try omega), bstep hbel.out B6.out⟩
                  case measure => simp only [intOf]; omega
          · have hc10 : (c == 10) = false := by simp; omega
            have hwc : Hid (decide (14 ≤ c ∧ c ≤ 18) = false) := decide_eq_false (fun e => hcc (.inr e))
            have HLB : Hid (q = false → L = b) := fun e => hLb (hq.out e)
            clear hLb hcc
            cases q with
            | true =>
              go_wp2_with (first | (go_at_call 13; refine (HBI.out _).mono ?_; rintro e w6 ⟨rfl, b6⟩; have c6 := HO6.out _ b6; have B6 : Hid (Below wr.heap.size wr w6) := b6; clear b6) | (go_at_call 14; refine (wcIn_b c 14 18 _ false hwc).mono ?_; rintro e w7 ⟨rfl, hw7⟩; rw [hw7]; clear hw7 w7))
              all_goals
                go_roundw
                case rel => exact ⟨k + 1, _, by omega, by go_num, rfl, HNXT.out _ (fun e => by simp at e), bstep hbel.out B6.out⟩
                case measure => simp only [intOf]; omega
            | false =>
              have hLe := HLB.out rfl
              subst hLe
              by_cases h14 : c < 14
              · go_wp2_with (first | (go_at_call 13; refine (HBI.out _).mono ?_; rintro e w6 ⟨rfl, b6⟩; have c6 := HO6.out _ b6; have B6 : Hid (Below wr.heap.size wr w6) := b6; clear b6) | (go_at_call 14; refine (wcIn_b c 14 18 _ false hwc).mono ?_; rintro e w7 ⟨rfl, hw7⟩; rw [hw7]; clear hw7 w7))
                all_goals
                  go_roundw
                  case rel => exact ⟨k + 1, _, by omega, by go_num, rfl, HNXT.out _ (fun _ => by first | exact ⟨rfl, h14⟩ | exact ⟨trivial, h14⟩ | simp; omega), bstep hbel.out B6.out⟩
                  case measure => simp only [intOf]; omega
              · have h14b : (14 : Int) ≤ c := by omega
                go_wp2_with (first | (go_at_call 13; refine (HBI.out _).mono ?_; rintro e w6 ⟨rfl, b6⟩; have c6 := HO6.out _ b6; have B6 : Hid (Below wr.heap.size wr w6) := b6; clear b6) | (go_at_call 14; refine (wcIn_b c 14 18 _ false hwc).mono ?_; rintro e w7 ⟨rfl, hw7⟩; rw [hw7]; clear hw7 w7))
                all_goals
                  go_roundw
                  case rel => exact ⟨k + 1, _, by omega, by go_num, rfl, HNXT.out _ (fun e => by simp at e; try omega), bstep hbel.out B6.out⟩
                  case measure => simp only [intOf]; omega
        · have e : k = nx := by omega
          subst e
          go_wp2_with fail
          go_ret
          exact ⟨rfl, bstep HB5.out hbel.out⟩
end Go.Proofs.Ytbeecmcgdlnakaa
