import Derived.Test.YtobmdefklgkoiaaSpLawM2
import Derived.Test.YtobmdefklgkoiaaWcSp
import Derived.Test.YtobmdefklgkoiaaDrawPut
import Derived.Test.YtobmdefklgkoiaaSpPS2
import Derived.Test.YtobmdefklgkoiaaSpPI
import Derived.Test.YtobmdefklgkoiaaSpanAtI
namespace Go.Proofs.Ytobmdefklgkoiaa
open Go.ChangeShapes Go.WideShapes Go.ChangeAt Go.RowKit
set_option linter.unusedSimpArgs false
set_option linter.unusedVariables false

set_option maxHeartbeats 1000000 in
theorem wcIn_at (n lo hi : Int) (w : World) (q : Bool) (hq : Hid (inB n lo hi = q)) : Calls Try.prog 19 #[.int .i64 n, .int .i64 lo, .int .i64 hi] w fun e w' => e = .returned (.bool q) ∧ w' = w := by
  rw [← hq.out]
  go_enter Try.func19, Try.ntmps19
  go_wp2
  all_goals (go_ret; refine ⟨retBool ?_, rfl⟩)
  all_goals (simp [inB])
  all_goals omega
theorem put_small (z : Nat → Int) (n : Nat) (c f t s m : Int) : (spQ 0 (putS z n c f t s m)).length ≤ 12 := by
  unfold putS
  split
  · rename_i h
    unfold putB at h
    rw [Bool.and_eq_true, Bool.and_eq_true, decide_eq_true_eq] at h
    omega
  · simp [spQ]

set_option maxRecDepth 10000 in
set_option maxHeartbeats 1000000 in
theorem spansPutLaw (a : Option Addr) (len cap : Nat) (w : World) (h : Bytes w a len cap) :
    Calls Try.prog 4 #[.slice a len cap] w fun e w' => e = .returned (.bool true) ∧ Below w.heap.size w w' := by
  by_cases hbig : 1048576 < len
  · have hbi : (1048576 : Int) < (len : Int) := by omega
    go_enter Try.func4, Try.ntmps4
    go_wp2_with fail
    go_ret
    exact ⟨rfl, Below.refl _ _⟩
  · have hbi : (len : Int) ≤ 1048576 := by omega
    go_enter Try.func4, Try.ntmps4
    go_wp2_with fail
    refine (drawSpansPut a len cap w h).mono ?_
    rintro e w1 ⟨⟨v, C, f, t, s, m, rfl, ⟨n, l, o1, hn⟩, hC⟩, b1⟩
    obtain ⟨av, cv, rfl⟩ := OwnS.nz o1
    obtain ⟨U, hU⟩ : ∃ U, w1.alloc (.cells #[.int .i64 f, .int .i64 t, .int .i64 s, .int .i64 m] 32) = U := ⟨_, rfl⟩
    obtain ⟨G, hG⟩ : ∃ G, w1.heap.size = G := ⟨_, rfl⟩
    have bU : Below w1.heap.size w1 U := by rw [← hU]; exact below_new _ _
    have HV : Hid (∀ w', Below U.heap.size U w' → ArgS w' (.slice av n cv) n l) := fun w' b => (o1.below (bU.trans (b.mono bU.size))).arg
    have hBX : BoxP U G f t s m := by rw [← hU, ← hG]; exact World.alloc_heap_new w1 _
    have HBX : Hid (∀ u, Below U.heap.size U u → u.cell? ⟨G, 0, none⟩ = some (.int .i64 f) ∧ u.cell? ⟨G, 1, none⟩ = some (.int .i64 t) ∧ u.cell? ⟨G, 2, none⟩ = some (.int .i64 s) ∧ u.cell? ⟨G, 3, none⟩ = some (.int .i64 m)) := fun u hu => BoxP.cells (BoxP.below hBX hu)
    have HBU : Hid (Below w.heap.size w U) := bstep b1 bU
    have HN : Hid (n ≤ 1000 ∧ C < 20) := ⟨by omega, hC⟩
    clear o1 b1 hn hC h bU hBX
    obtain ⟨R, hR⟩ : ∃ R, putS (fn l) n (C : Int) f t s m = R := ⟨_, rfl⟩
    obtain ⟨M, hM⟩ : ∃ M, (spQ 0 R).length = M := ⟨_, rfl⟩
    obtain ⟨b, hb⟩ : ∃ b, putB (fn l) n (C : Int) f t s m = b := ⟨_, rfl⟩
    have hMl : M ≤ 12 := by rw [← hM, ← hR]; exact put_small _ _ _ _ _ _ _
    have HR : Hid (putS (fn l) n (C : Int) f t s m = R) := hR
    have HM : Hid ((spQ 0 R).length = M) := hM
    have HB : Hid (putB (fn l) n (C : Int) f t s m = b) := hb
    clear hR hM hb
    obtain ⟨y0, y1, y2, y3⟩ := HBX.out U (Below.refl _ _)
    go_wp2_with fail
    try rw [hU]
    try rw [hG]
    clear hU hG
    go_wp2_with fail
    refine (implPut _ n l (C : Int) f t s m _ (HV.out _ (Below.refl _ _))).mono ?_
    rintro e w2 ⟨⟨x, rfl, o2⟩, b2⟩
    rw [HR.out, HM.out] at o2
    rw [HB.out]
    obtain ⟨ax, cx, rfl⟩ := OwnS.nz o2
    have HX : Hid (∀ w', Below w2.heap.size w2 w' → ArgS w' (.slice ax M cx) M (spR 0 R)) := fun w' b => (o2.below b).arg
    clear o2 y0 y1 y2 y3
    obtain ⟨y0, y1, y2, y3⟩ := HBX.out w2 b2
    go_wp2_with fail
    refine (specPutS _ n l (C : Int) f t s m _ (HV.out _ b2) (by have := HN.out; omega)).mono ?_
    rintro e w3 ⟨⟨y, rfl, o3⟩, b3⟩
    rw [HR.out, HM.out] at o3
    rw [HB.out]
    have BU3 := bstep b2 b3
    clear y0 y1 y2 y3
    have e1 : (b != b) = false := by simp
    have e2 : (b == b) = true := by simp
    have HY : Hid (∀ w', Below w3.heap.size w3 w' → ArgS w' y M (spR 0 R)) := fun w' b => (o3.below b).arg
    clear o3
    go_wp2_with fail
    refine (wcSpans_same _ _ M (spR 0 R) _ (HX.out _ b3) (HY.out _ (Below.refl _ _)) (by omega)).mono ?_
    rintro e w4 ⟨rfl, b4⟩
    have BU4 := bstep BU3 b4
    have B24 := bstep b3 b4
    cases b with
    | false =>
      go_wp2_with fail
      refine (wcSpans_same _ _ M (spR 0 R) _ (HX.out _ B24) (HY.out _ b4) (by omega)).mono ?_
      rintro e w5 ⟨rfl, b5⟩
      go_wp2_with fail
      go_ret
      exact ⟨rfl, HBU.out.trans ((bstep BU4 b5).mono HBU.out.size)⟩
    | true =>
      have hb := HB.out
      have hb0 := hb
      unfold putB at hb0
      rw [Bool.and_eq_true, Bool.and_eq_true, decide_eq_true_eq] at hb0
      obtain ⟨q1, q2, q3, q4, q5, q6, q7, q8⟩ := spOk_parts hb0.2.1
      obtain ⟨F, rfl⟩ : ∃ F : Nat, f = (F : Int) := ⟨f.toNat, by omega⟩
      obtain ⟨T, rfl⟩ : ∃ T : Nat, t = (T : Int) := ⟨t.toNat, by omega⟩
      have htold := putS_told hb
      rw [HR.out, HM.out] at htold
      have HT : Hid (putB (fn (spR 0 R)) M (C : Int) (F : Int) (T : Int) s m = true ∧ putS (fn (spR 0 R)) M (C : Int) (F : Int) (T : Int) s m = R ∧ spansOk (fn (spR 0 R)) M (C : Int) = true ∧ ∀ i : Nat, i < C → spanAt (fn (spR 0 R)) M (i : Int) = if F ≤ i ∧ i < T then (s, m) else spanAt (fn l) n (i : Int)) := htold
      have HQ : Hid (F < T ∧ T ≤ C) := ⟨by omega, by omega⟩
      have wr1 : wrap64 ((T : Int) - 1) = (T : Int) - 1 := by have := HN.out; unfold wrap64; omega
      have wr2 : IntKind.i64.wrap ((T : Int) - 1) = (T : Int) - 1 := by have := HN.out; simp [IntKind.wrap, IntKind.bits, IntKind.signed]; omega
      have hTC : (T : Int) ≤ 20 := by have := HN.out; omega
      have hT0 : (0 : Int) < (T : Int) := by omega
      have hC20 : (C : Int) < 20 := by have := HN.out; omega
      clear hb hb0 q1 q2 q3 q4 q5 q6 q7 q8 htold e1 e2
      go_wp2_with fail
      go_loopw [10] (fun i wr => ∃ k : Nat, k ≤ C ∧ i = .int .i64 (k : Int) ∧ Below w4.heap.size w4 wr) (fun i _ => C - (intOf i).toNat)
      case atStart => exact ⟨0, Nat.zero_le _, rfl, Below.refl _ _⟩
      case round =>
        obtain ⟨k, hk, rfl, hbel⟩ := hrel
        have HBE : Hid (Below w4.heap.size w4 wr) := hbel
        have HBUr : Hid (Below U.heap.size U wr) := BU4.trans (hbel.mono BU4.size)
        have HB2r : Hid (Below w2.heap.size w2 wr) := B24.trans (hbel.mono B24.size)
        clear hbel
        by_cases hlt : k < C
        · have hki : (k : Int) < (C : Int) := by omega
          obtain ⟨r, hr⟩ : ∃ r, spanAt (fn l) n (k : Int) = r := ⟨_, rfl⟩
          have HR1 : Hid (spanAt (fn l) n (k : Int) = r) := hr
          have hk2 := HT.out.2.2.2 k hlt
          rw [hr] at hk2
          by_cases hin : F ≤ k ∧ k < T
          · rw [if_pos hin] at hk2
            obtain ⟨hin1, hin2⟩ := hin
            have HR2 : Hid (spanAt (fn (spR 0 R)) M (k : Int) = (s, m)) := hk2
            have HI : Hid (inB (k : Int) (F : Int) ((T : Int) - 1) = true) := by show _ = _; simp only [inB, decide_eq_true_eq]; omega
            clear hr hk2
            go_wp2_with fail
            refine (implSpanAt _ n l (k : Int) _ (HV.out _ HBUr.out) r HR1).mono ?_
            rintro e w8 ⟨rfl, b8⟩
            obtain ⟨y0, y1, y2, y3⟩ := HBX.out w8 (bstep HBUr.out b8)
            go_wp2_with fail
            with_reducible refine (wcIn_at _ _ _ _ _ HI).mono ?_
            rintro e wc ⟨rfl, hwc⟩
            rw [hwc]
            clear hwc wc
            go_wp2_with fail
            refine (implSpanAt _ M (spR 0 R) (k : Int) _ (HX.out _ (bstep HB2r.out b8)) (s, m) HR2).mono ?_
            rintro e w9 ⟨rfl, b9⟩
            go_wp2_with fail
            exact ⟨⟨k + 1, hlt, by simp, bstep (bstep HBE.out b8) b9⟩, by simp only [intOf]; omega⟩
          · rw [if_neg hin] at hk2
            have HR2 : Hid (spanAt (fn (spR 0 R)) M (k : Int) = r) := hk2
            have HI : Hid (inB (k : Int) (F : Int) ((T : Int) - 1) = false) := by show _ = _; simp only [inB, decide_eq_false_iff_not]; omega
            clear hr hk2 hin
            go_wp2_with fail
            refine (implSpanAt _ n l (k : Int) _ (HV.out _ HBUr.out) r HR1).mono ?_
            rintro e w8 ⟨rfl, b8⟩
            obtain ⟨y0, y1, y2, y3⟩ := HBX.out w8 (bstep HBUr.out b8)
            go_wp2_with fail
            with_reducible refine (wcIn_at _ _ _ _ _ HI).mono ?_
            rintro e wc ⟨rfl, hwc⟩
            rw [hwc]
            clear hwc wc
            go_wp2_with fail
            refine (implSpanAt _ M (spR 0 R) (k : Int) _ (HX.out _ (bstep HB2r.out b8)) r HR2).mono ?_
            rintro e w9 ⟨rfl, b9⟩
            have n1 : (r.1 != r.1) = false := by simp
            have n2 : (r.2 != r.2) = false := by simp
            go_wp2_with fail
            exact ⟨⟨k + 1, hlt, by simp, bstep (bstep HBE.out b8) b9⟩, by simp only [intOf]; omega⟩
        · have e : k = C := by omega
          subst e
          obtain ⟨y0, y1, y2, y3⟩ := HBX.out wr HBUr.out
          go_wp2_with fail
          refine (implPut _ M (spR 0 R) (k : Int) (F : Int) (T : Int) s m _ (HX.out _ HB2r.out)).mono ?_
          rintro e w5 ⟨⟨z, rfl, o5⟩, b5⟩
          rw [HT.out.2.1, HM.out] at o5
          rw [HT.out.1]
          obtain ⟨az, cz, rfl⟩ := OwnS.nz o5
          clear y0 y1 y2 y3
          go_wp2_with fail
          refine (implSpansOk _ M (spR 0 R) (k : Int) _ (HX.out _ (bstep HB2r.out b5))).mono ?_
          rintro e w6 ⟨rfl, b6⟩
          rw [HT.out.2.2.1]
          go_wp2_with fail
          refine (wcSpans_same _ _ M (spR 0 R) _ (HX.out _ (bstep (bstep HB2r.out b5) b6)) (o5.below b6).arg (by omega)).mono ?_
          rintro e w7 ⟨rfl, b7⟩
          go_wp2_with fail
          go_ret
          exact ⟨rfl, HBU.out.trans ((bstep (bstep (bstep HBUr.out b5) b6) b7).mono HBU.out.size)⟩
end Go.Proofs.Ytobmdefklgkoiaa
