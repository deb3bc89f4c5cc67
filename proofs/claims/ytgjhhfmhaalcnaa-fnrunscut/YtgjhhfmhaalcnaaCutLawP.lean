import Derived.Test.YtgjhhfmhaalcnaaCutTop
import Derived.Test.YtgjhhfmhaalcnaaCutSpec
import Derived.Test.YtgjhhfmhaalcnaaCutFacts
import Derived.Test.YtgjhhfmhaalcnaaDrawCut
namespace Go.Proofs.Ytgjhhfmhaalcnaa
open Go.ChangeShapes Go.WideShapes Go.ChangeAt Go.RowKit
set_option linter.unusedSimpArgs false

set_option maxRecDepth 10000 in
set_option maxHeartbeats 8000000 in
theorem cutLaw (a : Option Addr) (len cap : Nat) (w : World) (h : Bytes w a len cap) :
    Calls Try.prog 6 #[.slice a len cap] w fun e w' => e = .returned (.bool true) ∧ Below w.heap.size w w' := by
  by_cases hbig : 1048576 < len
  · have hbig2 : (1048576 : Int) < (len : Int) := by omega
    go_enter Try.func6, Try.ntmps6
    go_wp2_with fail
    go_ret
    exact ⟨rfl, Below.refl _ _⟩
  · have hbig2 : (len : Int) ≤ 1048576 := by omega
    go_enter Try.func6, Try.ntmps6
    go_wp2_with fail
    refine (drawCut a len cap w h).mono ?_
    rintro e w1 ⟨⟨v, u, n, m, la, lb, rfl, oa, ob, hn, hm⟩, b1⟩
    go_wp2_with fail
    refine (implCut _ _ n m _ _ la lb _ oa ob).mono ?_
    rintro e w2 ⟨⟨vx, c, rfl, ox⟩, b2⟩
    go_wp2_with fail
    refine (specCut _ _ n m _ _ la lb _ (oa.below b2) (ob.below b2)).mono ?_
    rintro e w5 ⟨⟨vw, c', rfl, ow⟩, b5⟩
    have ecc : c' = c := by have h1 := ow.len; have h2 := ox.len; omega
    rw [ecc] at ow
    have oa5 := (oa.below b2).below b5
    have ob5 := (ob.below b2).below b5
    have ox5 := ox.below b5
    have hB5 := bstep (bstep b1 b2) b5
    have hcl := ox.len
    obtain ⟨X, hX⟩ : ∃ X, cutL la lb n m = X := ⟨_, rfl⟩
    obtain ⟨aa, ca, rfl, _, ra, _⟩ := oa5.rr
    obtain ⟨ab, cb, rfl, _, rb, _⟩ := ob5.rr
    rw [hX] at ox5 ow hcl
    obtain ⟨ax, cx, rfl, _, rx, _⟩ := ox5.rr
    obtain ⟨aw, cw, rfl, _, rw', _⟩ := ow.rr
    have HRA : Hid (∀ w', Below w5.heap.size w5 w' → RR w' aa n la) := fun w' hb => ra.step hb
    have HRB : Hid (∀ w', Below w5.heap.size w5 w' → RR w' ab m lb) := fun w' hb => rb.step hb
    have HRX : Hid (∀ w', Below w5.heap.size w5 w' → RR w' ax c X) := fun w' hb => rx.step hb
    have HRW : Hid (∀ w', Below w5.heap.size w5 w' → RR w' aw c X) := fun w' hb => rw'.step hb
    have HOA : Hid (∀ w', Below w5.heap.size w5 w' → OwnR w' w.heap.size (.slice aa n ca) n la) := fun w' hb => oa5.below hb
    have HOB : Hid (∀ w', Below w5.heap.size w5 w' → OwnR w' w.heap.size (.slice ab m cb) m lb) := fun w' hb => ob5.below hb
    have HXX : Hid (cutL la lb n m = X) := hX
    have HCL : Hid (X.length = c * 3) := hcl
    clear ecc oa ob ox ow oa5 ob5 ox5 ra rb rx rw' hX
    rcases Classical.em (Two (fn la) (fn lb) n m) with T | T
    · obtain ⟨c2, hC, hc0, hcnm, hfl⟩ := cut_law T
      rw [HXX.out] at hC
      have ec2 : c2 = c := by have := hC.len; omega
      rw [ec2] at hC hc0 hcnm hfl
      have HC : Hid (Cuts (fn la) (fn lb) n m 0 X c) := hC
      have HFL : Hid ((cutL lb la m n).length = c * 3) := hfl
      have HT : Hid (Two (fn la) (fn lb) n m) := T
      have HAT : Hid (∀ j, j < c → fn X (j * 3) = wE (fn X) j) := fun j hj => by
        cases j with
        | zero => exact hC.from0 hc0
        | succ j => exact hC.next j hj
      have hn0 := T.n0
      clear ec2 hC hfl T hcl
      go_wp2_with fail
      go_loopw [7, 8] (fun q iv wr => ∃ j : Nat, j ≤ c ∧ iv = .int .i64 j ∧ q = .int .i64 (wE (fn X) j) ∧ Below w5.heap.size w5 wr) (fun _ iv _ => c - (intOf iv).toNat)
      case atStart => exact ⟨0, Nat.zero_le _, rfl, rfl, Below.refl _ _⟩
      case round =>
        obtain ⟨j, hjc, rfl, rfl, hb⟩ := hrel
        by_cases hj : j < c
        · have hji : (j : Int) < (c : Int) := by omega
          obtain ⟨gx, rfl, _, y0, y1, y2⟩ := (HRX.out _ hb).three hj
          obtain ⟨gw, rfl, _, u0, u1, u2⟩ := (HRW.out _ hb).three hj
          have hp := HC.out.piece j hj
          have hat := HAT.out j hj
          have HE1 : Hid (wE (fn X) (j + 1) = fn X (j * 3 + 1)) := rfl
          obtain ⟨X0, hX0⟩ : ∃ x, fn X (j * 3) = x := ⟨_, rfl⟩
          obtain ⟨X1, hX1⟩ : ∃ x, fn X (j * 3 + 1) = x := ⟨_, rfl⟩
          obtain ⟨X2, hX2⟩ : ∃ x, fn X (j * 3 + 2) = x := ⟨_, rfl⟩
          have HX0 : Hid (fn X (j * 3) = X0) := hX0
          have HX1 : Hid (fn X (j * 3 + 1) = X1) := hX1
          have HX2 : Hid (fn X (j * 3 + 2) = X2) := hX2
          rw [hX0, hX1, hX2] at hp
          rw [hX0] at y0 u0 hat
          rw [hX1] at y1 u1 HE1
          rw [hX2] at y2 u2
          rw [← hat]
          obtain ⟨hlt, ⟨pp, hp1, hp2, hp3, hp4⟩, ⟨qq, hq1, hq2, hq3⟩⟩ := hp
          have HPA : Hid (orF (fun k => decide (fn la (k * 3) ≤ X0) && (decide (X1 ≤ fn la (k * 3 + 1)) && (fn la (k * 3 + 2) == X2))) n = true) := orF_yes hp1 (by simp [hp2, hp3, hp4])
          have HPB : Hid (orF (fun k => decide (fn lb (k * 3) ≤ X0) && decide (X1 ≤ fn lb (k * 3 + 1))) m = true) := orF_yes hq1 (by simp [hq2, hq3])
          have hle : decide (X1 ≤ X0) = false := by rw [decide_eq_false_iff_not]; omega
          clear hX0 hX1 hX2 hat hp1 hp2 hp3 hp4 hq1 hq2 hq3 pp qq
          go_wp2_with fail
          go_quiet (fail)
          go_wp2_with fail
          have hb2 := bstep hb (below_draws wr nq)
          clear y0 y1 y2 u0 u1 u2 hb
          go_loopw [9, 10] (fun q iv w3 => ∃ k : Nat, k ≤ n ∧ iv = .int .i64 k ∧ q = .bool (orF (fun k => decide (fn la (k * 3) ≤ X0) && (decide (X1 ≤ fn la (k * 3 + 1)) && (fn la (k * 3 + 2) == X2))) k) ∧ Below w5.heap.size w5 w3) (fun _ iv _ => n - (intOf iv).toNat)
          case atStart => exact ⟨0, Nat.zero_le _, rfl, rfl, hb2⟩
          case round =>
            obtain ⟨k, hk, rfl, rfl, hb3⟩ := hrel
            by_cases hlk : k < n
            · have hki : (k : Int) < (n : Int) := by omega
              have HOR : Hid (orF (fun k => decide (fn la (k * 3) ≤ X0) && (decide (X1 ≤ fn la (k * 3 + 1)) && (fn la (k * 3 + 2) == X2))) (k + 1) = (orF (fun k => decide (fn la (k * 3) ≤ X0) && (decide (X1 ≤ fn la (k * 3 + 1)) && (fn la (k * 3 + 2) == X2))) k || (fun k => decide (fn la (k * 3) ≤ X0) && (decide (X1 ≤ fn la (k * 3 + 1)) && (fn la (k * 3 + 2) == X2))) k)) := rfl
              obtain ⟨gx', e9, _, y0, y1, y2⟩ := (HRX.out _ hb3).three hj
              simp only [Option.some.injEq, Addr.mk.injEq] at e9
              obtain ⟨rfl, _⟩ := e9
              obtain ⟨ga, rfl, _, z0, z1, z2⟩ := (HRA.out _ hb3).three hlk
              rw [HX0.out] at y0
              rw [HX1.out] at y1
              rw [HX2.out] at y2
              obtain ⟨A0, hA0⟩ : ∃ x, fn la (k * 3) = x := ⟨_, rfl⟩
              obtain ⟨A1, hA1⟩ : ∃ x, fn la (k * 3 + 1) = x := ⟨_, rfl⟩
              obtain ⟨A2, hA2⟩ : ∃ x, fn la (k * 3 + 2) = x := ⟨_, rfl⟩
              simp only [hA0, hA1, hA2] at HOR z0 z1 z2
              clear hA0 hA1 hA2
              cases hQ : orF (fun k => decide (fn la (k * 3) ≤ X0) && (decide (X1 ≤ fn la (k * 3 + 1)) && (fn la (k * 3 + 2) == X2))) k
              · rw [hQ] at HOR
                by_cases h1 : A0 ≤ X0
                · have d1 : decide (A0 ≤ X0) = true := by simpa using h1
                  by_cases h2 : X1 ≤ A1
                  · have d2 : decide (X1 ≤ A1) = true := by simpa using h2
                    by_cases h3 : A2 = X2
                    · have d3 : (A2 == X2) = true := by simpa using h3
                      rw [d1, d2, d3] at HOR
                      clear h1 h2 h3
                      go_wp2_with fail
                      go_quiet (fail)
                      go_wp2_with fail
                      exact ⟨⟨k + 1, by omega, by go_num, by rw [HOR.out]; rfl, bstep hb3 (below_draws _ _)⟩, by simp only [intOf]; omega⟩
                    · have d3 : (A2 == X2) = false := by simpa using h3
                      rw [d1, d2, d3] at HOR
                      clear h1 h2 h3
                      go_wp2_with fail
                      go_quiet (fail)
                      go_wp2_with fail
                      exact ⟨⟨k + 1, by omega, by go_num, by rw [HOR.out]; rfl, bstep hb3 (below_draws _ _)⟩, by simp only [intOf]; omega⟩
                  · have d2 : decide (X1 ≤ A1) = false := by simpa using h2
                    rw [d1, d2] at HOR
                    clear h1 h2
                    go_wp2_with fail
                    go_quiet (fail)
                    go_wp2_with fail
                    exact ⟨⟨k + 1, by omega, by go_num, by rw [HOR.out]; rfl, bstep hb3 (below_draws _ _)⟩, by simp only [intOf]; omega⟩
                · have d1 : decide (A0 ≤ X0) = false := by simpa using h1
                  rw [d1] at HOR
                  clear h1
                  go_wp2_with fail
                  go_quiet (fail)
                  go_wp2_with fail
                  exact ⟨⟨k + 1, by omega, by go_num, by rw [HOR.out]; rfl, bstep hb3 (below_draws _ _)⟩, by simp only [intOf]; omega⟩
              · rw [hQ] at HOR
                go_wp2_with fail
                go_quiet (fail)
                go_wp2_with fail
                exact ⟨⟨k + 1, by omega, by go_num, by rw [HOR.out]; rfl, bstep hb3 (below_draws _ _)⟩, by simp only [intOf]; omega⟩
            · have ek : k = n := by omega
              subst ek
              rw [HPA.out]
              go_wp2_with fail
              go_loopw [11, 12] (fun q iv w3 => ∃ k : Nat, k ≤ m ∧ iv = .int .i64 k ∧ q = .bool (orF (fun k => decide (fn lb (k * 3) ≤ X0) && decide (X1 ≤ fn lb (k * 3 + 1))) k) ∧ Below w5.heap.size w5 w3) (fun _ iv _ => m - (intOf iv).toNat)
              case atStart => exact ⟨0, Nat.zero_le _, rfl, rfl, hb3⟩
              case round =>
                clear hb3
                obtain ⟨k, hk, rfl, rfl, hb3⟩ := hrel
                by_cases hlk : k < m
                · have hki : (k : Int) < (m : Int) := by omega
                  have HOR : Hid (orF (fun k => decide (fn lb (k * 3) ≤ X0) && decide (X1 ≤ fn lb (k * 3 + 1))) (k + 1) = (orF (fun k => decide (fn lb (k * 3) ≤ X0) && decide (X1 ≤ fn lb (k * 3 + 1))) k || (fun k => decide (fn lb (k * 3) ≤ X0) && decide (X1 ≤ fn lb (k * 3 + 1))) k)) := rfl
                  obtain ⟨gx', e9, _, y0, y1, y2⟩ := (HRX.out _ hb3).three hj
                  simp only [Option.some.injEq, Addr.mk.injEq] at e9
                  obtain ⟨rfl, _⟩ := e9
                  obtain ⟨ga, rfl, _, z0, z1, z2⟩ := (HRB.out _ hb3).three hlk
                  rw [HX0.out] at y0
                  rw [HX1.out] at y1
                  rw [HX2.out] at y2
                  obtain ⟨A0, hA0⟩ : ∃ x, fn lb (k * 3) = x := ⟨_, rfl⟩
                  obtain ⟨A1, hA1⟩ : ∃ x, fn lb (k * 3 + 1) = x := ⟨_, rfl⟩
                  obtain ⟨A2, hA2⟩ : ∃ x, fn lb (k * 3 + 2) = x := ⟨_, rfl⟩
                  simp only [hA0, hA1, hA2] at HOR z0 z1 z2
                  clear hA0 hA1 hA2
                  cases hQ : orF (fun k => decide (fn lb (k * 3) ≤ X0) && decide (X1 ≤ fn lb (k * 3 + 1))) k
                  · rw [hQ] at HOR
                    by_cases h1 : A0 ≤ X0
                    · have d1 : decide (A0 ≤ X0) = true := by simpa using h1
                      by_cases h2 : X1 ≤ A1
                      · have d2 : decide (X1 ≤ A1) = true := by simpa using h2
                        rw [d1, d2] at HOR
                        clear h1 h2
                        go_wp2_with fail
                        go_quiet (fail)
                        go_wp2_with fail
                        exact ⟨⟨k + 1, by omega, by go_num, by rw [HOR.out]; rfl, bstep hb3 (below_draws _ _)⟩, by simp only [intOf]; omega⟩
                      · have d2 : decide (X1 ≤ A1) = false := by simpa using h2
                        rw [d1, d2] at HOR
                        clear h1 h2
                        go_wp2_with fail
                        go_quiet (fail)
                        go_wp2_with fail
                        exact ⟨⟨k + 1, by omega, by go_num, by rw [HOR.out]; rfl, bstep hb3 (below_draws _ _)⟩, by simp only [intOf]; omega⟩
                    · have d1 : decide (A0 ≤ X0) = false := by simpa using h1
                      rw [d1] at HOR
                      clear h1
                      go_wp2_with fail
                      go_quiet (fail)
                      go_wp2_with fail
                      exact ⟨⟨k + 1, by omega, by go_num, by rw [HOR.out]; rfl, bstep hb3 (below_draws _ _)⟩, by simp only [intOf]; omega⟩
                  · rw [hQ] at HOR
                    go_wp2_with fail
                    go_quiet (fail)
                    go_wp2_with fail
                    exact ⟨⟨k + 1, by omega, by go_num, by rw [HOR.out]; rfl, bstep hb3 (below_draws _ _)⟩, by simp only [intOf]; omega⟩
                · have ek : k = m := by omega
                  subst ek
                  rw [HPB.out]
                  go_wp2_with fail
                  exact ⟨⟨j + 1, by omega, by go_num, by rw [HE1.out], hb3⟩, by simp only [intOf]; omega⟩
        · have ej : j = c := by omega
          subst ej
          obtain ⟨n', hn'⟩ : ∃ n', n = n' + 1 := ⟨n - 1, by omega⟩
          obtain ⟨j', hj'⟩ : ∃ j', j = j' + 1 := ⟨j - 1, by omega⟩
          have hend : wE (fn X) j = fn la (n' * 3 + 1) := by
            have := HC.out.last j' hj'.symm
            rw [hj']; show fn X (j' * 3 + 1) = _; rw [this, hn']; rfl
          have hcb : ((j : Int) == 0) = false := by simp; omega
          have hni : (n : Int) - 1 = (n' : Int) := by omega
          have hnl : (n' : Int) < (n : Int) := by omega
          have hjn : (j : Int) < (n : Int) + (m : Int) := by omega
          obtain ⟨Z, hZ⟩ : ∃ x, fn la (n' * 3 + 1) = x := ⟨_, rfl⟩
          rw [hend, hZ]
          have HZ : Hid (fn la (n' * 3 + 1) = Z) := hZ
          have hnn : n' < n := by omega
          clear hend hZ hn' hj' hc0 hcnm hn0 HT
          go_wp2_with fail
          refine (implCut _ _ m n _ _ lb la _ (HOB.out _ hb) (HOA.out _ hb)).mono ?_
          rintro e w6 ⟨⟨v6, c6, rfl, o6⟩, b6⟩
          have ec6 : c6 = j := by have h1 := o6.len; have h2 := HFL.out; omega
          rw [ec6] at o6
          obtain ⟨a6, p6, rfl, _, _, _⟩ := o6.rr
          have hb6 := bstep hb b6
          obtain ⟨ga, rfl, _, _, z1, _⟩ := (HRA.out _ hb6).three hnn
          rw [HZ.out] at z1
          clear ec6 o6
          go_wp2_with fail
          go_ret
          exact ⟨rfl, bstep hB5 hb6⟩
    · have hX0 : X = [] := by rw [← HXX.out]; exact cutL_no T
      have hc0 : c = 0 := by rw [hX0] at hcl; simp at hcl; omega
      subst hc0
      clear hX0 hcl T
      go_wp2_with fail
      go_rounds 1
      go_ret
      exact ⟨rfl, hB5⟩
end Go.Proofs.Ytgjhhfmhaalcnaa
