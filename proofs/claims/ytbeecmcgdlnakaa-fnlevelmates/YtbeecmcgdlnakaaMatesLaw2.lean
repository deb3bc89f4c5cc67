import Derived.Test.YtbeecmcgdlnakaaMtL
import Derived.Test.YtbeecmcgdlnakaaMateInv
import Derived.Test.YtbeecmcgdlnakaaBrkX
import Derived.Test.YtbeecmcgdlnakaaDrawMt
import Derived.Test.YtbeecmcgdlnakaaWcRows
import Derived.Test.YtbeecmcgdlnakaaBytesRow
namespace Go.Proofs.Ytbeecmcgdlnakaa
open Go.ChangeShapes Go.WideShapes Go.ChangeAt Go.RowKit
set_option linter.unusedSimpArgs false
set_option linter.unusedVariables false

theorem mateR_is (l c : List Int) : ∃ Ls : List (Nat × Nat), mateR l c = rowsP Ls ∧ Ls.length ≤ 81 ∧ (∀ i (h : i < Ls.length), (Ls[i]).1 < (Ls[i]).2 ∧ (Ls[i]).2 < l.length ∧ mate (fn l (Ls[i]).1) = fn l (Ls[i]).2) ∧ (∀ k i (hk : k < i) (h : i < Ls.length), (Ls[k]).1 < (Ls[i]).1 ∧ (Ls[k]).2 ≠ (Ls[i]).2 ∧ ¬ ((Ls[k]).1 < (Ls[i]).1 ∧ (Ls[i]).1 < (Ls[k]).2 ∧ (Ls[k]).2 < (Ls[i]).2)) := by
  by_cases q : okF (fn l) l.length = true ∧ clsOk (fn c) c.length = true ∧ l.length = c.length
  · refine ⟨_, mateR_yes q.1 q.2.1 q.2.2, ?_, pairs_is (fn l) (fn c) mate_inv l.length _ rfl⟩
    have h80 := okF_len q.1
    rw [srt_len]; have := (st_len (fn l) (fn c) mate l.length).2; omega
  · exact ⟨[], by rw [mateR_no q]; rfl, by simp, fun i h => by simp at h, fun k i _ h => by simp at h⟩

set_option maxRecDepth 10000 in
set_option maxHeartbeats 8000000 in
theorem matesLaw (a : Option Addr) (len cap : Nat) (w : World) (h : Bytes w a len cap) :
    Calls Try.prog 5 #[.slice a len cap] w fun e w' => e = .returned (.bool true) ∧ Below w.heap.size w w' := by
  by_cases hbig : 1048576 < len
  · have hbig2 : (1048576 : Int) < (len : Int) := by omega
    go_enter Try.func5, Try.ntmps5
    go_wp2_with fail
    go_ret
    exact ⟨rfl, Below.refl _ _⟩
  · have hl2 : (len : Int) ≤ 1048576 := by omega
    go_enter Try.func5, Try.ntmps5
    go_wp2_with fail
    refine (drawMates a len cap w h).mono ?_
    rintro e w1 ⟨⟨v1, v2, l, c, rfl, o1, p1, hl, hc⟩, b1⟩
    obtain ⟨av, _, cv, rfl, rfl⟩ := o1.slicZ
    obtain ⟨ac, _, cc, rfl, rfl⟩ := p1.slicZ
    obtain ⟨Ls, hR, hLn, hone, htwo⟩ := mateR_is l c
    have HR : Hid (mateR l c = rowsP Ls) := hR
    have HONE : Hid _ := hone
    have HTWO : Hid _ := htwo
    clear hR hone htwo
    go_wp2_with fail
    refine (implMates l c _ _ _ _ _ o1.arg p1.arg (by omega) (by omega)).mono ?_
    rintro e w2 ⟨⟨vg, rfl, ug, rg2⟩, b2⟩
    have o2 := o1.below b2
    have p2 := p1.below b2
    have B2 := bstep b1 b2
    rw [HR.out] at rg2
    go_wp2_with fail
    refine (specMates l c _ _ _ _ _ o2.arg p2.arg (by omega) (by omega)).mono ?_
    rintro e w3 ⟨⟨vs, rfl, us, rs3⟩, b3⟩
    rw [HR.out] at rs3
    have o3 := o2.below b3
    have rg3 := rg2.below b3
    have B3 := bstep B2 b3
    go_wp2_with fail
    refine (wcRows_yes _ _ _ _ (rowsP Ls) _ _ _ rg3 rs3 (fun j hj => by rw [rowsP_at (by rw [rowsP_len] at hj; exact hj)]; simp [rowP]) (by rw [rowsP_len]; omega)).mono ?_
    rintro e w4 ⟨rfl, b4⟩
    have o4 := o3.below b4
    have rg4 := rg3.below b4
    have B4 := bstep B3 b4
    clear o1 o2 o3 p1 p2 rg2 rg3 rs3 b1 b2 b3 b4 B2 B3
    obtain ⟨ag, cg, rfl⟩ := rg4.slc
    obtain ⟨N, hN⟩ : ∃ N, Ls.length = N := ⟨_, rfl⟩
    have hrl : (rowsP Ls).length = N := by rw [rowsP_len, hN]
    rw [hrl] at rg4 ⊢
    have HN : Hid (Ls.length = N) := hN
    have HRL : Hid ((rowsP Ls).length = N) := hrl
    have HRG : Hid (RR w4 w1.heap.size (.slice ag N cg) ug (rowsP Ls)) := rg4
    have HO4 : Hid (OwnI w4 w.heap.size (.slice av l.length cv) l) := o4
    have HB4 : Hid (Below w.heap.size w w4) := B4
    have hN81 : N ≤ 81 := by omega
    clear rg4 o4 B4 hN hrl hLn
    go_wp2_with fail
    go_loopw [6] (fun i wr => ∃ (k : Nat), k ≤ N ∧ i = .int .i64 k ∧ Hid (Below w4.heap.size w4 wr)) (fun i _ => N - (intOf i).toNat)
    case atStart => exact ⟨0, Nat.zero_le _, rfl, Below.refl _ _⟩
    case round =>
      obtain ⟨k, hk, rfl, hbel⟩ := hrel
      by_cases hlt : k < N
      · have hki : (k : Int) < (N : Int) := by omega
        obtain ⟨g1, c1', e1, _⟩ := HRG.out.own.form1 (by rw [HRL.out]; omega)
        simp only [Value.slice.injEq] at e1
        obtain ⟨rfl, hz1, rfl⟩ := e1
        clear hz1
        have HRW : Hid (∀ j, (hj : j < N) → ∃ gj cj, wr.cell? ⟨g1, j, none⟩ = some (.slice (some ⟨gj, 0, none⟩) 2 cj) ∧ wr.cell? ⟨gj, 0, none⟩ = some (.int .i64 ((Ls[j]'(by rw [HN.out]; exact hj)).1 : Int)) ∧ wr.cell? ⟨gj, 1, none⟩ = some (.int .i64 ((Ls[j]'(by rw [HN.out]; exact hj)).2 : Int))) := fun j hj => by
          have hj2 : j < Ls.length := by rw [HN.out]; exact hj
          have k1 := (HRG.out.below hbel.out).cellA j hj
          have r1 := (HRG.out.below hbel.out).row j (by rw [HRL.out]; exact hj)
          rw [rowsP_at hj2] at r1
          obtain ⟨gj, cj, e, _⟩ := OwnI.form1 r1 (by simp [rowP])
          rw [show (rowP Ls[j]).length = 2 from rfl] at e
          rw [e] at r1 k1
          exact ⟨gj, cj, k1, r1.cellN 0 (by omega), r1.cellN 1 (by omega)⟩
        obtain ⟨h1, h2, h3⟩ := HONE.out k (by rw [HN.out]; exact hlt)
        obtain ⟨gk, ck, q1, q2, q3⟩ := HRW.out k hlt
        obtain ⟨A, hA⟩ : ∃ A, (Ls[k]'(by rw [HN.out]; exact hlt)).1 = A := ⟨_, rfl⟩
        obtain ⟨Bq, hBq⟩ : ∃ Bq, (Ls[k]'(by rw [HN.out]; exact hlt)).2 = Bq := ⟨_, rfl⟩
        have hTW := fun j (hj : j < k) => HTWO.out j k hj (by rw [HN.out]; exact hlt)
        rw [hA, hBq] at h1 h3
        rw [hBq] at h2
        rw [hA] at q2
        rw [hBq] at q3
        rw [hA, hBq] at hTW
        have HTW : Hid _ := hTW
        clear hTW
        obtain ⟨gl, cl', el, _⟩ := OwnI.form1 HO4.out (by intro e; rw [e] at h2; simp at h2)
        simp only [Value.slice.injEq] at el
        obtain ⟨rfl, _, rfl⟩ := el
        obtain ⟨ln, hln⟩ : ∃ ln, l.length = ln := ⟨_, rfl⟩
        have ol := HO4.out.below hbel.out
        rw [hln] at ol h2 hl ⊢
        have cA := ol.cellN A (by omega)
        have cB := ol.cellN Bq h2
        obtain ⟨x, hx⟩ : ∃ x, fn l A = x := ⟨_, rfl⟩
        obtain ⟨y, hy⟩ : ∃ y, fn l Bq = y := ⟨_, rfl⟩
        rw [hx] at cA h3
        rw [hy] at cB h3
        have HM : Hid (∀ W, Calls Try.prog 22 #[.int .i64 x] W fun e w' => e = .returned (.int .i64 y) ∧ w' = W) := fun W => by rw [← h3]; exact implMate x W
        have hAi : (A : Int) < (ln : Int) := by omega
        have hBi : (Bq : Int) < (ln : Int) := by omega
        have d1 : decide (Bq ≤ A) = false := by simp; omega
        have d2 : decide ((Bq : Int) ≤ (A : Int)) = false := by simp; omega
        have HLN : Hid (l.length = ln) := hln
        have hAB : (A : Int) < (Bq : Int) := by omega
        have HABN : Hid (A < Bq) := h1
        have hlni : ln ≤ 81 := hl
        clear hx hy h3 ol hln hA hBq hl h1
        by_cases hk0 : k = 0
        · subst hk0
          go_wp2_with fail
          go_quiet ((go_at_call 22; with_reducible exact Calls.quiet_of_same (HM.out _)))
          go_wp2_with fail
          go_loop [9] (fun j => j = .int .i64 0) (fun _ => 0)
          case atStart => rfl
          case round =>
            subst hrel
            go_wp2_with fail
            go_roundw
            case rel => exact ⟨1, by omega, by go_num, bstep hbel.out (below_draws _ _)⟩
            case measure => simp only [intOf]; omega
        · obtain ⟨j, rfl⟩ : ∃ j, k = j + 1 := ⟨k - 1, by omega⟩
          obtain ⟨gj, cj, s1, s2, _⟩ := HRW.out j (by omega)
          obtain ⟨C, hC⟩ : ∃ C, (Ls[j]'(by rw [HN.out]; omega)).1 = C := ⟨_, rfl⟩
          rw [hC] at s2
          have hCA := (HTW.out j (by omega)).1
          rw [hC] at hCA
          have d3 : decide (A ≤ C) = false := by simp; omega
          have d4 : decide ((A : Int) ≤ (C : Int)) = false := by simp; omega
          have d5 : decide (0 < j + 1) = true := by simp
          have d6 : decide ((0 : Int) < ((j + 1 : Nat) : Int)) = true := decide_eq_true (by omega)
          have d7 : ((j + 1 : Nat) : Int) - 1 = (j : Int) := by omega
          have d8 : IntKind.i64.wrap (j : Int) = (j : Int) := by rw [IntKind.wrap_i64]; omega
          have hji : (j : Int) < (N : Int) := by omega
          clear hC hCA
          go_wp2_with fail
          go_quiet ((go_at_call 22; with_reducible exact Calls.quiet_of_same (HM.out _)))
          go_wp2_with fail
          go_loop [9] (fun z => ∃ m : Nat, m ≤ j + 1 ∧ z = .int .i64 m) (fun z => j + 1 - (intOf z).toNat)
          case atStart => exact ⟨0, Nat.zero_le _, rfl⟩
          case round =>
            obtain ⟨m, hm, rfl⟩ := hrel
            clear s1 s2 d3 d4 d5 d6 d7 d8 q1 q2 q3 cA cB
            by_cases hmj : m < j + 1
            · obtain ⟨gm, cm, t1, t2, t3⟩ := HRW.out m (by omega)
              have hT := HTW.out m hmj
              obtain ⟨Cm, hCm⟩ : ∃ Cm, (Ls[m]'(by rw [HN.out]; omega)).1 = Cm := ⟨_, rfl⟩
              obtain ⟨Dm, hDm⟩ : ∃ Dm, (Ls[m]'(by rw [HN.out]; omega)).2 = Dm := ⟨_, rfl⟩
              rw [hCm, hDm] at hT
              rw [hCm] at t2
              rw [hDm] at t3
              have e1 : (wr.drewN nq).cell? ⟨g1, m, none⟩ = some (.slice (some ⟨gm, 0, none⟩) 2 cm) := t1
              have e2 : (wr.drewN nq).cell? ⟨gm, 0, none⟩ = some (.int .i64 (Cm : Int)) := t2
              have e3 : (wr.drewN nq).cell? ⟨gm, 1, none⟩ = some (.int .i64 (Dm : Int)) := t3
              obtain ⟨f1, f2, f3⟩ := hT
              have hmi : (m : Int) < ((j + 1 : Nat) : Int) := by omega
              have hmN : (m : Int) < (N : Int) := by omega
              have n1 : ((Dm : Int) == (Bq : Int)) = false := by simp; omega
              have n2 : (Cm : Int) < (A : Int) := by omega
              clear t1 t2 t3 hCm hDm
              by_cases hAD : A < Dm
              · have n3 : (A : Int) < (Dm : Int) := by omega
                have n4 : ¬ (Dm : Int) < (Bq : Int) := by omega
                clear f1 f2 f3 hAD
                go_wp2_with fail
                go_round
                case rel => exact ⟨m + 1, by omega, by go_num⟩
                case measure => simp only [intOf]; omega
              · have n3 : ¬ (A : Int) < (Dm : Int) := by omega
                clear f1 f2 f3 hAD
                go_wp2_with fail
                go_round
                case rel => exact ⟨m + 1, by omega, by go_num⟩
                case measure => simp only [intOf]; omega
            · have e : m = j + 1 := by omega
              subst e
              go_wp2_with fail
              go_roundw
              case rel => exact ⟨j + 1 + 1, by omega, by go_num, bstep hbel.out (below_draws _ _)⟩
              case measure => simp only [intOf]; omega
      · have e : k = N := by omega
        subst e
        go_wp2_with fail
        go_ret
        exact ⟨rfl, bstep HB4.out hbel.out⟩
end Go.Proofs.Ytbeecmcgdlnakaa
