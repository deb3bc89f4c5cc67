import Derived.Test.YtnaiaponkafcpaaWeakFn
import Derived.Test.YtnaiaponkafcpaaDrawCl
import Derived.Test.YtnaiaponkafcpaaWc
namespace Go.Proofs.Ytnaiaponkafcpaa
open Go.ChangeShapes Go.WideShapes Go.ChangeAt Go.RowKit
set_option linter.unusedSimpArgs false

theorem weak_cls {l : List Int} {b : Int} (hc : clsOk (fn l) l.length = true) (hb : sideB b = true) : clsOk (fn (weakL l b)) (weakL l b).length = true := by
  obtain ⟨h1, h2⟩ := clsOk_out hc
  have hb' : b = 1 ∨ b = 2 := by unfold sideB at hb; exact of_decide_eq_true hb
  rw [clsOk_yes (fun j hj => (weak_is hb' h2 (k := j) (by rw [weakL_len] at hj; exact hj)).cls), weakL_len]
  simpa using h1
theorem weakR_again {l : List Int} {b : Int} (hc : clsOk (fn l) l.length = true) (hb : sideB b = true) : weakR (weakL l b) b = weakL l b := by
  have hb' : b = 1 ∨ b = 2 := by unfold sideB at hb; exact of_decide_eq_true hb
  rw [weakR_yes ⟨weak_cls hc hb, hb⟩, weak_again hb' (clsOk_out hc).2]

set_option maxRecDepth 10000 in
set_option maxHeartbeats 8000000 in
theorem weakLaw (a : Option Addr) (len cap : Nat) (w : World) (h : Bytes w a len cap) :
    Calls Try.prog 4 #[.slice a len cap] w fun e w' => e = .returned (.bool true) ∧ Below w.heap.size w w' := by
  by_cases hbig : 1048576 < len
  · have hbig2 : (1048576 : Int) < (len : Int) := by omega
    go_enter Try.func4, Try.ntmps4
    go_wp2_with fail
    go_ret
    exact ⟨rfl, Below.refl _ _⟩
  · have hl2 : (len : Int) ≤ 1048576 := by omega
    go_enter Try.func4, Try.ntmps4
    go_wp2_with fail
    refine (drawWeak a len cap w h).mono ?_
    rintro e w1 ⟨⟨v, l, b, rfl, o1, hlen⟩, b1⟩
    obtain ⟨av, n, cv, rfl, hn⟩ := o1.slc
    have HN : Hid _ := hn
    have hn80 : n ≤ 80 := by omega
    have HL6 : Hid (l.length ≤ 1048576) := show l.length ≤ 1048576 by omega
    have hwl := weakR_len l b
    obtain ⟨X, hX⟩ : ∃ X, weakR l b = X := ⟨_, rfl⟩
    rw [hX] at hwl
    have HX : Hid _ := hX
    have HX4 : Hid (X.length ≤ 4194304) := show X.length ≤ 4194304 by omega
    clear hn hX
    go_wp2_with fail
    refine (implWeak _ l b _ av cv (by rw [HN.out]) o1.arg HL6.out).mono ?_
    rintro e w2 ⟨⟨vx, rfl, ox2⟩, b2⟩
    rw [HX.out] at ox2
    have o2 := o1.below b2
    have B2 := bstep b1 b2
    go_wp2_with fail
    refine (specWeak _ l b _ av cv (by rw [HN.out]) o2.arg HL6.out).mono ?_
    rintro e w3 ⟨⟨v3, rfl, p3⟩, b3⟩
    rw [HX.out] at p3
    have o3 := o2.below b3
    have ox3 := ox2.below b3
    have B3 := bstep B2 b3
    go_wp2_with fail
    refine (wcInts_yes _ _ X _ ox3.arg p3.arg HX4.out).mono ?_
    rintro e w4 ⟨rfl, b4⟩
    have o4 := o3.below b4
    have ox4 := ox3.below b4
    have B4 := bstep B3 b4
    clear o1 o2 o3 ox2 ox3 p3 B2 B3 b1 b2 b3 b4
    obtain ⟨ax, nx, cx, rfl, hnx⟩ := ox4.slc
    have HNX : Hid _ := hnx
    have hnxn : nx ≤ n := by have := HN.out; omega
    clear hnx hwl
    by_cases hz : nx = 0
    · subst hz
      go_wp2_with fail
      refine (specWeak _ l b _ av cv (by rw [HN.out]) o4.arg HL6.out).mono ?_
      rintro e w5 ⟨⟨v5, rfl, p5⟩, b5⟩
      rw [HX.out] at p5
      go_wp2_with fail
      refine (wcInts_yes _ _ X _ (ox4.below b5).arg p5.arg HX4.out).mono ?_
      rintro e w6 ⟨rfl, b6⟩
      go_wp2_with fail
      go_ret
      exact ⟨rfl, bstep (bstep B4 b5) b6⟩
    · have hok : clsOk (fn l) l.length = true ∧ sideB b = true := by
        have hx := HX.out
        by_cases h : clsOk (fn l) l.length = true ∧ sideB b = true
        · exact h
        · exfalso
          rw [weakR_no h] at hx
          have := HNX.out
          rw [← hx] at this
          simp at this
          omega
      have hXw : weakL l b = X := by rw [← HX.out, weakR_yes hok]
      have hnn : nx = n := by rw [← HNX.out, ← hXw, weakL_len, HN.out]
      subst hnn
      have HOK : Hid _ := hok
      have HIS : Hid (∀ k, k < nx → WeakIs (fn l k) (fn X k)) := fun k hk => by
        have hb' : b = 1 ∨ b = 2 := by have := hok.2; unfold sideB at this; exact of_decide_eq_true this
        rw [← hXw]
        exact weak_is hb' (clsOk_out hok.1).2 (by rw [HN.out]; exact hk)
      have HAG : Hid (weakR X b = X) := by show _ = _; rw [← hXw]; exact weakR_again hok.1 hok.2
      clear hok hXw hnxn
      have hnz : ((nx : Int) == 0) = false := by simp; omega
      rcases o4.forms with ⟨e, _⟩ | ⟨gl, cl, e, _, hgl, _, _, _⟩
      · simp only [Value.slice.injEq] at e; omega
      simp only [Value.slice.injEq] at e
      obtain ⟨rfl, -, rfl⟩ := e
      rcases ox4.forms with ⟨e, _⟩ | ⟨gx, cxx, e, _, hgx, _, _, _⟩
      · simp only [Value.slice.injEq] at e; omega
      simp only [Value.slice.injEq] at e
      obtain ⟨rfl, -, rfl⟩ := e
      have HO4 : Hid (OwnI w4 w.heap.size (.slice (some ⟨gl, 0, none⟩) nx cv) l) := o4
      have HOX4 : Hid (∃ B, OwnI w4 B (.slice (some ⟨gx, 0, none⟩) nx cx) X) := ⟨_, ox4⟩
      have HB4 : Hid _ := B4
      clear o4 ox4 B4
      go_wp2_with fail
      go_loop [6] (fun i => ∃ (k : Nat), k ≤ nx ∧ i = .int .i64 k) (fun i => nx - (intOf i).toNat)
      case atStart => exact ⟨0, Nat.zero_le _, rfl⟩
      case round =>
        obtain ⟨k, hk, rfl⟩ := hrel
        by_cases hlt : k < nx
        · have cl1 : w4.cell? ⟨gl, k, none⟩ = some (.int .i64 (fn l k)) := HO4.out.cellN k hlt
          obtain ⟨BX, hBX⟩ := HOX4.out
          have cx1 : w4.cell? ⟨gx, k, none⟩ = some (.int .i64 (fn X k)) := hBX.cellN k hlt
          obtain ⟨⟨i3, i5, i6, i8, i9⟩, iL, iR, _⟩ := HIS.out k hlt
          obtain ⟨Z, hZ⟩ : ∃ Z, fn l k = Z := ⟨_, rfl⟩
          obtain ⟨Y, hY⟩ : ∃ Y, fn X k = Y := ⟨_, rfl⟩
          rw [hZ] at cl1 iL iR
          rw [hY] at cx1 i3 i5 i6 i8 i9 iL iR
          have g3 : (Y == 3) = false := by simpa using i3
          have g5 : (Y == 5) = false := by simpa using i5
          have g6 : (Y == 6) = false := by simpa using i6
          have g8 : (Y == 8) = false := by simpa using i8
          have g9 : (Y == 9) = false := by simpa using i9
          clear hZ hY hBX i3 i5 i6 i8 i9
          have hcase : (Z = 1 ∧ Y = 1) ∨ (Z = 2 ∧ Y = 2) ∨ (Z = 3 ∧ Y = 2) ∨ (Z ≠ 1 ∧ Z ≠ 2 ∧ Z ≠ 3) := by
            by_cases z1 : Z = 1
            · exact .inl ⟨z1, iL z1⟩
            · by_cases z2 : Z = 2
              · exact .inr (.inl ⟨z2, iR (.inl z2)⟩)
              · by_cases z3 : Z = 3
                · exact .inr (.inr (.inl ⟨z3, iR (.inr z3)⟩))
                · exact .inr (.inr (.inr ⟨z1, z2, z3⟩))
          clear iL iR
          rcases hcase with ⟨rfl, rfl⟩ | ⟨rfl, rfl⟩ | ⟨rfl, rfl⟩ | ⟨z1, z2, z3⟩
          · go_wp2_with fail
            go_round
            case rel => exact ⟨k + 1, by omega, by go_num⟩
            case measure => simp only [intOf]; omega
          · go_wp2_with fail
            go_round
            case rel => exact ⟨k + 1, by omega, by go_num⟩
            case measure => simp only [intOf]; omega
          · go_wp2_with fail
            go_round
            case rel => exact ⟨k + 1, by omega, by go_num⟩
            case measure => simp only [intOf]; omega
          · have q1 : (Z == 1) = false := by simpa using z1
            have q2 : (Z == 2) = false := by simpa using z2
            have q3 : (Z == 3) = false := by simpa using z3
            clear z1 z2 z3
            go_wp2_with fail
            go_round
            case rel => exact ⟨k + 1, by omega, by go_num⟩
            case measure => simp only [intOf]; omega
        · have e : k = nx := by omega
          subst e
          obtain ⟨BX, hBX⟩ := HOX4.out
          have HBX : Hid _ := hBX
          clear hBX
          go_wp2_with fail
          refine (implWeak _ X b _ (some ⟨gx, 0, none⟩) cx (by rw [HNX.out]) (OwnI.arg (w := w4) (B := BX) (v := .slice (some ⟨gx, 0, none⟩) k cx) (l := X) HBX.out) (by have := HNX.out; omega)).mono ?_
          rintro e w5 ⟨⟨v5, rfl, p5⟩, b5⟩
          rw [HAG.out] at p5
          have hxa : Arg w5 (.slice (some ⟨gx, 0, none⟩) k cx) X := (OwnI.arg (w := w4) (B := BX) (v := .slice (some ⟨gx, 0, none⟩) k cx) (l := X) HBX.out).below b5
          go_wp2_with fail
          refine (wcInts_yes _ _ X _ p5.arg hxa HX4.out).mono ?_
          rintro e w6 ⟨rfl, b6⟩
          go_wp2_with fail
          go_ret
          exact ⟨rfl, bstep (bstep HB4.out b5) b6⟩
end Go.Proofs.Ytnaiaponkafcpaa
