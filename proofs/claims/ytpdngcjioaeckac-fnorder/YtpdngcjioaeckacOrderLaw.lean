import Derived.Test.YtpdngcjioaeckacDrawLv2
import Derived.Test.YtpdngcjioaeckacOrdMath
import Derived.Test.YtpdngcjioaeckacWc
namespace Go.Proofs.Ytpdngcjioaeckac
open Go.ChangeShapes Go.WideShapes Go.ChangeAt Go.RowKit
set_option linter.unusedSimpArgs false

set_option maxHeartbeats 1000000 in
theorem wcIn_yes (n lo hi : Int) (w : World) (h1 : lo ≤ n) (h2 : n ≤ hi) : Calls Try.prog 13 #[.int .i64 n, .int .i64 lo, .int .i64 hi] w fun e w' => e = .returned (.bool true) ∧ w' = w := by
  go_enter Try.func13, Try.ntmps13
  go_wp2
  go_ret
  exact ⟨rfl, rfl⟩

set_option maxHeartbeats 8000000 in
theorem orderLaw (a : Option Addr) (len cap : Nat) (w : World) (h : Bytes w a len cap) :
    Calls Try.prog 5 #[.slice a len cap] w fun e w' => e = .returned (.bool true) ∧ Below w.heap.size w w' := by
  by_cases hbig : 1048576 < len
  · have hbig2 : (1048576 : Int) < (len : Int) := by omega
    go_enter Try.func5, Try.ntmps5
    go_wp2_with fail
    go_ret
    exact ⟨rfl, Below.refl _ _⟩
  · have hl2 : (len : Int) ≤ 1048576 := by omega
    go_enter Try.func5, Try.ntmps5
    go_wp2_with fail
    refine (drawOrder a len cap w h).mono ?_
    rintro e w1 ⟨⟨v, l, rfl, o1, hlen⟩, b1⟩
    have hol := ordR_len l
    have hbl := backR_len l
    obtain ⟨av, n, cv, rfl, hn⟩ := o1.slice
    have HN : Hid _ := hn
    have hn80 : n ≤ 80 := by omega
    have hl4 : n ≤ 4194304 := by omega
    have HL4 : Hid (l.length ≤ 4194304) := show l.length ≤ 4194304 by omega
    have HO4 : Hid ((ordR l).length ≤ 4194304) := show (ordR l).length ≤ 4194304 by omega
    have HB4 : Hid ((backR l).length ≤ 4194304) := show (backR l).length ≤ 4194304 by omega
    clear hn hlen
    go_wp2_with fail
    refine (implOrd _ l _ o1.arg HL4.out).mono ?_
    rintro e w2 ⟨⟨vo, rfl, oo2⟩, b2⟩
    have o2 := o1.below b2
    have B2 := bstep b1 b2
    go_wp2_with fail
    refine (implBack _ _ _ l _ HN.out o2.arg hl4).mono ?_
    rintro e w3 ⟨⟨vb, rfl, ob3⟩, b3⟩
    have o3 := o2.below b3
    have oo3 := oo2.below b3
    have B3 := bstep B2 b3
    go_wp2_with fail
    refine (specOrd _ l _ o3.arg HL4.out).mono ?_
    rintro e w4 ⟨⟨v4, rfl, p4⟩, b4⟩
    have o4 := o3.below b4
    have oo4 := oo3.below b4
    have ob4 := ob3.below b4
    have B4 := bstep B3 b4
    go_wp2_with fail
    refine (wcInts_yes _ _ (ordR l) _ oo4.arg p4.arg HO4.out).mono ?_
    rintro e w5 ⟨rfl, b5⟩
    have o5 := o4.below b5
    have oo5 := oo4.below b5
    have ob5 := ob4.below b5
    have B5 := bstep B4 b5
    go_wp2_with fail
    refine (specBack _ _ _ l _ HN.out o5.arg hl4).mono ?_
    rintro e w6 ⟨⟨v6, rfl, p6⟩, b6⟩
    have o6 := o5.below b6
    have oo6 := oo5.below b6
    have ob6 := ob5.below b6
    have B6 := bstep B5 b6
    go_wp2_with fail
    refine (wcInts_yes _ _ (backR l) _ ob6.arg p6.arg HB4.out).mono ?_
    rintro e w7 ⟨rfl, b7⟩
    have o7 := o6.below b7
    have oo7 := oo6.below b7
    have ob7 := ob6.below b7
    have B7 := bstep B6 b7
    clear o1 o2 o3 o4 o5 o6 oo2 oo3 oo4 oo5 oo6 ob3 ob4 ob5 ob6 p4 p6 B2 B3 B4 B5 B6 b1 b2 b3 b4 b5 b6 b7
    obtain ⟨ab, nb, cb, rfl, hnb⟩ := ob7.slice
    by_cases hz : nb = 0
    · subst hz
      have HNB : Hid _ := hnb
      clear hnb
      go_wp2_with fail
      refine (specOrd _ l _ o7.arg HL4.out).mono ?_
      rintro e w8 ⟨⟨v8, rfl, p8⟩, b8⟩
      go_wp2_with fail
      refine (wcInts_yes _ _ (ordR l) _ (oo7.below b8).arg p8.arg HO4.out).mono ?_
      rintro e w9 ⟨rfl, b9⟩
      go_wp2_with fail
      refine (specBack _ _ _ l _ HN.out ((o7.below b8).below b9).arg hl4).mono ?_
      rintro e w10 ⟨⟨v10, rfl, p10⟩, b10⟩
      go_wp2_with fail
      refine (wcInts_yes _ _ (backR l) _ (((ob7.below b8).below b9).below b10).arg p10.arg HB4.out).mono ?_
      rintro e w11 ⟨rfl, b11⟩
      go_wp2_with fail
      go_ret
      exact ⟨rfl, bstep (bstep (bstep (bstep B7 b8) b9) b10) b11⟩
    · have hok : lvF (fn l) l.length = true := by
        cases hk : lvF (fn l) l.length
        · exfalso; simp [backR, hk] at hnb; omega
        · rfl
      have hbk : backR l = backF l.length (orderL l) (orderL l).length := by simp [backR, hok]
      have hor : ordR l = orderL l := by simp [ordR, hok]
      have hnn : nb = n := by rw [← hnb, hbk, backF_len]; exact HN.out
      subst hnn
      have HIS : Hid (∀ i, i < nb → (fn l i < 0 → fn (backR l) i = -1) ∧ (0 ≤ fn l i → ∃ x : Nat, x < (ordR l).length ∧ fn (backR l) i = (x : Int) ∧ fn (ordR l) x = (i : Int))) := by
        show ∀ i, i < nb → _
        intro i hi
        rw [hbk, hor]
        exact back_is l (by rw [HN.out]; exact hi)
      have HEND : Hid ((ord0 (fn l) nb).length = (ordR l).length) := by
        show _ = _
        rw [hor, orderL_len, HN.out]
      clear hok hbk hor hnb
      obtain ⟨ao, no, co, rfl, hno⟩ := oo7.slice
      rw [hno] at HIS HEND
      have hno80 : no ≤ 80 := by omega
      have HNO : Hid _ := hno
      clear hno hol
      have hnbz : ((nb : Int) == 0) = false := by simp; omega
      go_wp2_with fail
      rcases o7.forms with ⟨e, _⟩ | ⟨gl, cl, e, _, hgl, _, _, _⟩
      · simp only [Value.slice.injEq] at e; omega
      simp only [Value.slice.injEq] at e
      obtain ⟨rfl, -, rfl⟩ := e
      rcases ob7.forms with ⟨e, _⟩ | ⟨gb, cbb, e, _, hgb, _, _, _⟩
      · simp only [Value.slice.injEq] at e; omega
      simp only [Value.slice.injEq] at e
      obtain ⟨rfl, -, rfl⟩ := e
      go_loop [6, 7] (fun c i => ∃ (k : Nat), k ≤ nb ∧ i = .int .i64 k ∧ c = .int .i64 ((ord0 (fn l) k).length : Int)) (fun _ i => nb - (intOf i).toNat)
      case atStart => exact ⟨0, Nat.zero_le _, rfl, rfl⟩
      case round =>
        obtain ⟨k, hk, rfl, rfl⟩ := hrel
        by_cases hlt : k < nb
        · have hc0 : w7.cell? ⟨gl, k, none⟩ = some (.int .i64 (fn l k)) := o7.cellN k hlt
          have hcb : w7.cell? ⟨gb, k, none⟩ = some (.int .i64 (fn (backR l) k)) := ob7.cellN k hlt
          obtain ⟨hneg, hpos⟩ := HIS.out k hlt
          have hle := ord0_len (fn l) k
          by_cases h0 : 0 ≤ fn l k
          · obtain ⟨x, hx, e1, e2⟩ := hpos h0
            rw [e1] at hcb
            have HS : Hid ((ord0 (fn l) (k + 1)).length = (ord0 (fn l) k).length + 1) := show _ = _ by simp [ord0, h0]
            rcases oo7.forms with ⟨e, _⟩ | ⟨go, coo, e, _, hgo, _, _, _⟩
            · simp only [Value.slice.injEq] at e; omega
            simp only [Value.slice.injEq] at e
            obtain ⟨rfl, -, rfl⟩ := e
            have hco : w7.cell? ⟨go, x, none⟩ = some (.int .i64 (k : Int)) := by rw [← e2]; exact oo7.cellN x hx
            clear hneg hpos e1 e2
            go_wp2_with (go_at_call 13; refine (wcIn_yes _ _ _ _ (by omega) (by omega)).mono ?_; rintro e w' ⟨rfl, rfl⟩)
            go_round
            case rel => exact ⟨k + 1, by omega, by go_num, by rw [HS.out]; go_num⟩
            case measure => simp only [intOf]; omega
          · have hm := hneg (by omega)
            rw [hm] at hcb
            have HS : Hid (ord0 (fn l) (k + 1) = ord0 (fn l) k) := show _ = _ by simp [ord0, h0]
            clear hneg hpos hm
            go_wp2_with fail
            go_round
            case rel => exact ⟨k + 1, by omega, by go_num, by rw [HS.out]⟩
            case measure => simp only [intOf]; omega
        · have e : k = nb := by omega
          subst e
          rw [HEND.out]
          go_wp2_with fail
          go_ret
          exact ⟨by simp, B7⟩
end Go.Proofs.Ytpdngcjioaeckac
