import Derived.Test.YtpdngcjioaeckacDrawLv2
import Derived.Test.YtpdngcjioaeckacSideMath
import Derived.Test.YtpdngcjioaeckacWc
namespace Go.Proofs.Ytpdngcjioaeckac
open Go.ChangeShapes Go.WideShapes Go.ChangeAt Go.RowKit
set_option linter.unusedSimpArgs false

set_option maxHeartbeats 8000000 in
theorem sideLaw (a : Option Addr) (len cap : Nat) (w : World) (h : Bytes w a len cap) :
    Calls Try.prog 6 #[.slice a len cap] w fun e w' => e = .returned (.bool true) ∧ Below w.heap.size w w' := by
  by_cases hbig : 1048576 < len
  · have hbig2 : (1048576 : Int) < (len : Int) := by omega
    go_enter Try.func6, Try.ntmps6
    go_wp2_with fail
    go_ret
    exact ⟨rfl, Below.refl _ _⟩
  · have hl2 : (len : Int) ≤ 1048576 := by omega
    go_enter Try.func6, Try.ntmps6
    go_wp2_with fail
    refine (drawBack a len cap w h).mono ?_
    rintro e w1 ⟨⟨v, l, rfl, o1, hlen⟩, b1⟩
    have hbl := backR_len l
    have hol := ordR_len l
    obtain ⟨av, n, cv, rfl, hn⟩ := o1.slice
    have HN : Hid _ := hn
    have hn80 : n ≤ 80 := by omega
    have hl4 : n ≤ 4194304 := by omega
    have HB4 : Hid ((backR l).length ≤ 4194304) := show (backR l).length ≤ 4194304 by omega
    clear hn hlen
    go_wp2_with fail
    refine (implBack _ _ _ l _ HN.out o1.arg hl4).mono ?_
    rintro e w2 ⟨⟨vb, rfl, ob2⟩, b2⟩
    have o2 := o1.below b2
    have B2 := bstep b1 b2
    go_wp2_with fail
    refine (specBack _ _ _ l _ HN.out o2.arg hl4).mono ?_
    rintro e w3 ⟨⟨v3, rfl, p3⟩, b3⟩
    have o3 := o2.below b3
    have ob3 := ob2.below b3
    have B3 := bstep B2 b3
    go_wp2_with fail
    refine (wcInts_yes _ _ (backR l) _ ob3.arg p3.arg HB4.out).mono ?_
    rintro e w4 ⟨rfl, b4⟩
    have o4 := o3.below b4
    have ob4 := ob3.below b4
    have B4 := bstep B3 b4
    clear o1 o2 o3 ob2 ob3 p3 B2 B3 b1 b2 b3 b4
    obtain ⟨ab, nb, cb, rfl, hnb⟩ := ob4.slice
    by_cases hz : nb = 0
    · subst hz
      go_wp2_with fail
      go_rounds 1
      go_ret
      exact ⟨rfl, B4⟩
    · have hok : lvF (fn l) l.length = true := by
        cases hk : lvF (fn l) l.length
        · exfalso; simp [backR, hk] at hnb; omega
        · rfl
      have hbk : backR l = backF l.length (orderL l) (orderL l).length := by simp [backR, hok]
      have hor : ordR l = orderL l := by simp [ordR, hok]
      have hnn : nb = n := by rw [← hnb, hbk, backF_len]; exact HN.out
      subst hnn
      have HIS : Hid (∀ i v : Nat, i + 1 < nb → fn l i = (v : Int) → fn l (i + 1) = (v : Int) → ∃ x : Nat, x ≤ 80 ∧ ((v % 2 = 0 ∧ fn (backR l) i = (x : Int) ∧ fn (backR l) (i + 1) = ((x : Int) + 1)) ∨ (v % 2 = 1 ∧ fn (backR l) i = ((x : Int) + 1) ∧ fn (backR l) (i + 1) = (x : Int)))) := by
        show ∀ i v : Nat, _
        intro i v hi h1 h2
        rw [hbk]
        obtain ⟨x, hx, hc⟩ := side_is l (by rw [HN.out]; exact hi) h1 h2
        rw [hor] at hol
        exact ⟨x, by omega, hc⟩
      have H22 : Hid (∀ j, j < nb → fn l j ≤ 22) := fun j hj => by have := lvF_get hok (j := j) (by rw [HN.out]; exact hj); simp [lvl] at this; omega
      clear hok hbk hor hnb hol
      rcases o4.forms with ⟨e, _⟩ | ⟨gl, cl, e, _, hgl, _, _, _⟩
      · simp only [Value.slice.injEq] at e; omega
      simp only [Value.slice.injEq] at e
      obtain ⟨rfl, -, rfl⟩ := e
      rcases ob4.forms with ⟨e, _⟩ | ⟨gb, cbb, e, _, hgb, _, _, _⟩
      · simp only [Value.slice.injEq] at e; omega
      simp only [Value.slice.injEq] at e
      obtain ⟨rfl, -, rfl⟩ := e
      go_wp2_with fail
      go_loopw [5] (fun i wr => ∃ (k m : Nat), k < nb ∧ i = .int .i64 k ∧ wr = w4.drewN m) (fun i _ => nb - (intOf i).toNat)
      case atStart => exact ⟨0, 0, by omega, rfl, rfl⟩
      case round =>
        obtain ⟨k, m, hk, rfl, rfl⟩ := hrel
        by_cases hlt : k + 1 < nb
        · have hki : (k : Int) + 1 < (nb : Int) := by omega
          have hki0 : (k : Int) < (nb : Int) := by omega
          have c0 : w4.cell? ⟨gl, k, none⟩ = some (.int .i64 (fn l k)) := o4.cellN k hk
          have c1 : w4.cell? ⟨gl, k + 1, none⟩ = some (.int .i64 (fn l (k + 1))) := o4.cellN (k + 1) hlt
          by_cases h0 : 0 ≤ fn l k
          · by_cases hq : fn l k = fn l (k + 1)
            · obtain ⟨u, hu⟩ : ∃ u : Nat, fn l k = (u : Int) := ⟨(fn l k).toNat, by omega⟩
              have hu2 : fn l (k + 1) = (u : Int) := by omega
              obtain ⟨x, hx, hc⟩ := HIS.out k u hlt hu hu2
              have hub := H22.out k hk
              have d0 : w4.cell? ⟨gb, k, none⟩ = some (.int .i64 (fn (backR l) k)) := ob4.cellN k hk
              have d1 : w4.cell? ⟨gb, k + 1, none⟩ = some (.int .i64 (fn (backR l) (k + 1))) := ob4.cellN (k + 1) hlt
              rw [hu] at c0 hub
              rw [hu2] at c1
              clear hu hu2 hq h0
              have hd : decide ((u : Int) < 0) = false := by rw [decide_eq_false_iff_not]; omega
              rcases hc with ⟨p, e1, e2⟩ | ⟨p, e1, e2⟩
              · rw [e1] at d0
                rw [e2] at d1
                have hpar : ((u : Int) % 2) = 0 := by omega
                have htm : (u : Int).tmod 2 = 0 := by rw [Int.tmod_eq_emod_of_nonneg (by omega)]; exact hpar
                clear e1 e2 p
                go_wp2_with fail
                go_quiet (fail)
                go_wp2_with fail
                go_quiet (fail)
                go_wp2_with fail
                go_roundw
                case rel => exact ⟨k + 1, _, by omega, by go_num, by first | rfl | (rw [World.drewN_drewN]) | (rw [World.drewN_drewN, World.drewN_drewN])⟩
                case measure => simp only [intOf]; omega
              · obtain ⟨y, hy⟩ : ∃ y : Nat, y = x + 1 := ⟨_, rfl⟩
                rw [show (x : Int) + 1 = (y : Int) by omega] at e1
                rw [show (x : Int) = (y : Int) - 1 by omega] at e2
                rw [e1] at d0
                rw [e2] at d1
                have hpar : ((u : Int) % 2) = 1 := by omega
                have htm : (u : Int).tmod 2 = 1 := by rw [Int.tmod_eq_emod_of_nonneg (by omega)]; exact hpar
                have hyb : y ≤ 81 := by omega
                clear e1 e2 p hy hx
                go_wp2_with fail
                go_quiet (fail)
                go_wp2_with fail
                go_quiet (fail)
                go_wp2_with fail
                go_roundw
                case rel => exact ⟨k + 1, _, by omega, by go_num, by first | rfl | (rw [World.drewN_drewN]) | (rw [World.drewN_drewN, World.drewN_drewN])⟩
                case measure => simp only [intOf]; omega
            · have hq2 : (fn l k != fn l (k + 1)) = true := by simpa using hq
              have hd : decide (fn l k < 0) = false := by rw [decide_eq_false_iff_not]; omega
              clear hq
              go_wp2_with fail
              go_quiet (fail)
              go_wp2_with fail
              go_roundw
              case rel => exact ⟨k + 1, _, by omega, by go_num, by first | rfl | (rw [World.drewN_drewN])⟩
              case measure => simp only [intOf]; omega
          · have h0n : fn l k < 0 := by omega
            have hd : decide (fn l k < 0) = true := by simp; omega
            clear h0
            go_wp2_with fail
            go_quiet (fail)
            go_wp2_with fail
            go_roundw
            case rel => exact ⟨k + 1, _, by omega, by go_num, by first | rfl | (rw [World.drewN_drewN])⟩
            case measure => simp only [intOf]; omega
        · have hki : ¬ (k : Int) + 1 < (nb : Int) := by omega
          go_wp2_with fail
          go_ret
          exact ⟨rfl, B4.trans ((below_draws w4 m).mono B4.size)⟩
end Go.Proofs.Ytpdngcjioaeckac
