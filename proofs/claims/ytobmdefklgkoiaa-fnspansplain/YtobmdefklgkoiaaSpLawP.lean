import Derived.Test.YtobmdefklgkoiaaSpLawM
import Derived.Test.YtobmdefklgkoiaaWcSp
import Derived.Test.YtobmdefklgkoiaaDrawSp2
import Derived.Test.YtobmdefklgkoiaaBytesRowA
import Derived.Test.YtobmdefklgkoiaaSpPS
import Derived.Test.YtobmdefklgkoiaaSpCo2
import Derived.Test.YtobmdefklgkoiaaSpanAtI
namespace Go.Proofs.Ytobmdefklgkoiaa
open Go.ChangeShapes Go.WideShapes Go.ChangeAt Go.RowKit
set_option linter.unusedSimpArgs false
set_option linter.unusedVariables false

theorem went_belowT {w w' : World} {R p : Nat} (h : Went w w' R p) {W : World} (hB : Below W.heap.size W w) (hR : W.heap.size ≤ R) (hl : R < w.heap.size) : Below W.heap.size W w' :=
  hB.trans (h.below hR hl)
set_option maxHeartbeats 1000000 in
theorem drawSpansPlain (a : Option Addr) (len cap : Nat) (w : World) (h : Bytes w a len cap) :
    Calls Try.prog 9 #[.slice a len cap] w fun e w' => (∃ v, ∃ C : Nat, e = .returned (.tuple #[v, .int .i64 (C : Int)]) ∧ SpRes w' w.heap.size v ∧ C < 20) ∧ Below w.heap.size w w' := by
  go_enter Try.func9, Try.ntmps9
  go_wp2_with fail
  refine (open_any a len cap w h).mono ?_
  rintro e w1 ⟨rfl, hr1, b1⟩
  have hl1 := hr1.lt
  go_wp2_with fail
  refine (pick_went w.heap.size 0 _ _ hr1 (by omega) (by omega) (by omega)).mono ?_
  rintro e w2 ⟨⟨C, rfl, hC⟩, hW2, hz2⟩
  have B2 := went_belowT hW2 b1 (Nat.le_refl _) hl1
  have s2 := hW2.gr.size
  clear hz2
  go_wp2_with fail
  refine (anySpans w.heap.size 1 C w2 hW2.rd (by omega) (by omega)).mono ?_
  rintro e w3 ⟨⟨v, rfl, n, s, o3, hn⟩, p3, hp3, hW3⟩
  have B3 := went_belowT hW3 B2 (Nat.le_refl _) (by omega)
  go_wp2_with fail
  go_ret2
  exact ⟨⟨_, _, rfl, ⟨n, s, o3.mono (by omega), hn⟩, by omega⟩, B3⟩

theorem OwnS.nz1 {w : World} {v : Value} {l : List Int} {B n : Nat} (h : OwnS w B v n l) : ∃ a cap, v = .slice a n cap := by
  rcases h.forms with ⟨rfl, rfl⟩ | ⟨g, cap, rfl, _⟩
  · exact ⟨none, 0, rfl⟩
  · exact ⟨_, cap, rfl⟩
theorem bool_ne (b : Bool) : (b != b) = false := by simp
theorem bool_eq (b : Bool) : (b == b) = true := by simp

set_option maxRecDepth 10000 in
set_option maxHeartbeats 1000000 in
theorem spansPlainLaw (a : Option Addr) (len cap : Nat) (w : World) (h : Bytes w a len cap) :
    Calls Try.prog 3 #[.slice a len cap] w fun e w' => e = .returned (.bool true) ∧ Below w.heap.size w w' := by
  by_cases hbig : 1048576 < len
  · have hbi : (1048576 : Int) < (len : Int) := by omega
    go_enter Try.func3, Try.ntmps3
    go_wp2_with fail
    go_ret
    exact ⟨rfl, Below.refl _ _⟩
  · have hbi : (len : Int) ≤ 1048576 := by omega
    go_enter Try.func3, Try.ntmps3
    go_wp2_with fail
    refine (drawSpansPlain a len cap w h).mono ?_
    rintro e w1 ⟨⟨v, C, rfl, ⟨n, s, o1, hn⟩, hC⟩, b1⟩
    obtain ⟨av, cv, rfl⟩ := OwnS.nz1 o1
    have HV : Hid (∀ w', Below w1.heap.size w1 w' → ArgS w' (.slice av n cv) n s) := fun w' b => (o1.below b).arg
    have HB1 : Hid (Below w.heap.size w w1) := b1
    have HN : Hid (n ≤ 1000) := by show _ ≤ _; omega
    have HC : Hid (C < 20) := hC
    clear o1 b1 hn hC h
    obtain ⟨R, hR⟩ : ∃ R, plainS (fn s) n (C : Int) = R := ⟨_, rfl⟩
    obtain ⟨M, hM⟩ : ∃ M, (spQ 0 R).length = M := ⟨_, rfl⟩
    have hMl : M ≤ 14 := by
      rw [← hM, ← hR]
      unfold plainS
      split
      · rename_i hq
        have h1 := looks_sp (fn s) n (C : Int)
        have h2 := (spansOk_out hq).1
        omega
      · simp [spQ]
    have HR : Hid (plainS (fn s) n (C : Int) = R) := hR
    have HM : Hid ((spQ 0 R).length = M) := hM
    clear hR hM
    go_wp2_with fail
    refine (implPlain _ n s (C : Int) _ (HV.out _ (Below.refl _ _))).mono ?_
    rintro e w2 ⟨⟨x, rfl, o2⟩, b2⟩
    rw [HR.out, HM.out] at o2
    obtain ⟨ax, cx, rfl⟩ := OwnS.nz1 o2
    have HX : Hid (∀ w', Below w2.heap.size w2 w' → ArgS w' (.slice ax M cx) M (spR 0 R)) := fun w' b => (o2.below b).arg
    clear o2
    go_wp2_with fail
    refine (specPlainS _ n s (C : Int) _ (HV.out _ b2) (by have := HN.out; omega)).mono ?_
    rintro e w3 ⟨⟨y, rfl, o3⟩, b3⟩
    rw [HR.out, HM.out] at o3
    go_wp2_with fail
    refine (wcSpans_same _ _ M (spR 0 R) _ (HX.out _ b3) o3.arg (by omega)).mono ?_
    rintro e w4 ⟨rfl, b4⟩
    have B24 := bstep b3 b4
    have B14 := bstep (bstep b2 b3) b4
    clear o3
    obtain ⟨ok, hok⟩ : ∃ ok, spansOk (fn s) n (C : Int) = ok := ⟨_, rfl⟩
    have HOK : Hid (spansOk (fn s) n (C : Int) = ok) := hok
    clear hok b2 b3 b4
    go_wp2_with fail
    refine (implSpansOk _ n s (C : Int) _ (HV.out _ B14)).mono ?_
    rintro e w5 ⟨rfl, b5⟩
    rw [HOK.out]
    go_wp2_with fail
    refine (specSpansOk _ n s (C : Int) _ (HV.out _ (bstep B14 b5)) (by have := HN.out; omega)).mono ?_
    rintro e w6 ⟨rfl, b6⟩
    rw [HOK.out]
    have B26 := bstep (bstep B24 b5) b6
    have B16 := bstep (bstep B14 b5) b6
    clear b5 b6 B24 B14
    have e1 := bool_ne ok
    go_wp2_with fail
    refine (specSpansOk _ n s (C : Int) _ (HV.out _ B16) (by have := HN.out; omega)).mono ?_
    rintro e w7 ⟨rfl, b7⟩
    rw [HOK.out]
    have B27 := bstep B26 b7
    have B17 := bstep B16 b7
    clear b7 B26 B16 e1
    cases ok with
    | false =>
      go_wp2_with fail
      refine (specPlainS _ n s (C : Int) _ (HV.out _ B17) (by have := HN.out; omega)).mono ?_
      rintro e w8 ⟨⟨y, rfl, o8⟩, b8⟩
      rw [HR.out, HM.out] at o8
      have B28 := bstep B27 b8
      have B18 := bstep B17 b8
      go_wp2_with fail
      refine (wcSpans_same _ _ M (spR 0 R) _ (HX.out _ B28) o8.arg (by omega)).mono ?_
      rintro e w9 ⟨rfl, b9⟩
      have B19 := bstep B18 b9
      clear o8
      go_wp2_with fail
      refine (implSpansOk _ n s (C : Int) _ (HV.out _ B19)).mono ?_
      rintro e w10 ⟨rfl, b10⟩
      rw [HOK.out]
      go_wp2_with fail
      refine (specSpansOk _ n s (C : Int) _ (HV.out _ (bstep B19 b10)) (by have := HN.out; omega)).mono ?_
      rintro e w11 ⟨rfl, b11⟩
      rw [HOK.out]
      go_wp2_with fail
      go_ret
      exact ⟨rfl, HB1.out.trans ((bstep (bstep B19 b10) b11).mono HB1.out.size)⟩
    | true =>
      have hok := HOK.out
      have hc80 := (spansOk_out hok).1
      have hRl : looksR (fn s) n (C : Int) = R := by rw [← HR.out]; unfold plainS; rw [if_pos hok]
      have hv : validR R := by rw [← hRl]; exact valid_looks hok
      have hno : normR R := by rw [← hRl]; exact norm_looks _ _ _
      have hcn : cntR R = C := by rw [← hRl, ← cnt_len, expand_looks hok, looksS_len]; simp
      have h12 : (spQ 0 R).length ≤ 12 := by rw [← hRl]; have := looks_sp (fn s) n (C : Int); omega
      have hcC : C ≤ 80 := by omega
      have HT : Hid (spansOk (fn (spR 0 R)) M (C : Int) = true) := by show _ = _; rw [← HM.out]; exact told_ok hv hno h12 hcn hcC
      have HPB : Hid (plainS (fn (spR 0 R)) M (C : Int) = R) := by show _ = _; rw [← HM.out]; exact told_back hv hno h12 hcn hcC
      have HNI0 : Hid (∀ i, i < M → ¬ (fn (spR 0 R) (i * 4 + 2) = 10 ∧ fn (spR 0 R) (i * 4 + 3) = 0) ∧ (∀ (hi : 0 < i), ¬ (fn (spR 0 R) ((i - 1) * 4 + 1) = fn (spR 0 R) (i * 4) ∧ fn (spR 0 R) ((i - 1) * 4 + 2) = fn (spR 0 R) (i * 4 + 2) ∧ fn (spR 0 R) ((i - 1) * 4 + 3) = fn (spR 0 R) (i * 4 + 3)))) := fun i hi => told_nice hno (by rw [HM.out]; exact hi)
      have HSA : Hid (∀ i : Nat, i < C → spanAt (fn (spR 0 R)) M (i : Int) = spanAt (fn s) n (i : Int)) := fun i hi => by
        have g1 := told_at hv hno h12 hcn hcC hi
        rw [HM.out, ← hRl, expand_looks hok, Int.toNat_natCast, looks_at hi, hRl] at g1
        rw [spanAt_ok hok]
        exact (Option.some.inj g1).symm
      clear hok hc80 hRl hv hno hcn h12
      go_wp2_with fail
      go_loopw [6] (fun i wr => ∃ k : Nat, k ≤ C ∧ i = .int .i64 (k : Int) ∧ Below w7.heap.size w7 wr) (fun i _ => C - (intOf i).toNat)
      case atStart => exact ⟨0, Nat.zero_le _, rfl, Below.refl _ _⟩
      case round =>
        obtain ⟨k, hk, rfl, hbel⟩ := hrel
        have HBE : Hid (Below w7.heap.size w7 wr) := hbel
        have HB17 : Hid (Below w1.heap.size w1 wr) := B17.trans (hbel.mono B17.size)
        have HB27 : Hid (Below w2.heap.size w2 wr) := B27.trans (hbel.mono B27.size)
        by_cases hlt : k < C
        · have hki : (k : Int) < (C : Int) := by omega
          obtain ⟨r, hr⟩ : ∃ r, spanAt (fn s) n (k : Int) = r := ⟨_, rfl⟩
          have HR1 : Hid (spanAt (fn s) n (k : Int) = r) := hr
          have HR2 : Hid (spanAt (fn (spR 0 R)) M (k : Int) = r) := by show _ = _; rw [HSA.out k hlt]; exact hr
          clear hr hbel
          go_wp2_with fail
          refine (implSpanAt _ n s (k : Int) _ (HV.out _ HB17.out) r HR1).mono ?_
          rintro e w8 ⟨rfl, b8⟩
          go_wp2_with fail
          refine (implSpanAt _ M (spR 0 R) (k : Int) _ (HX.out _ (bstep HB27.out b8)) r HR2).mono ?_
          rintro e w9 ⟨rfl, b9⟩
          have n1 : (r.1 != r.1) = false := by simp
          have n2 : (r.2 != r.2) = false := by simp
          go_wp2_with fail
          exact ⟨⟨k + 1, hlt, by simp, bstep (bstep HBE.out b8) b9⟩, by simp only [intOf]; omega⟩
        · have e : k = C := by omega
          subst e
          have HV' : Hid (∀ w', Below wr.heap.size wr w' → ArgS w' (.slice ax M cx) M (spR 0 R)) := fun w' b => HX.out w' (HB27.out.trans (b.mono HB27.out.size))
          have HB1r : Hid (Below w.heap.size w wr) := HB1.out.trans (HB17.out.mono HB1.out.size)
          clear hbel
          go_wp2_with fail
          obtain ⟨W, hW⟩ : ∃ W, wr = W := ⟨_, rfl⟩
          rw [hW]
          have HX3 : Hid (∀ w', Below W.heap.size W w' → ArgS w' (.slice ax M cx) M (spR 0 R)) := by rw [← hW]; exact HV'
          have HB3 : Hid (Below w.heap.size w W) := by rw [← hW]; exact HB1r
          clear hW
          go_loopw [11] (fun i wr => ∃ k : Nat, k ≤ M ∧ i = .int .i64 (k : Int) ∧ Below W.heap.size W wr) (fun i _ => M - (intOf i).toNat)
          case atStart => exact ⟨0, Nat.zero_le _, rfl, Below.refl _ _⟩
          case round =>
            obtain ⟨i, hi, rfl, hbel⟩ := hrel
            rename World => wz
            have HBE : Hid (Below W.heap.size W wz) := hbel
            by_cases hlt : i < M
            · obtain ⟨b, hxv, hat⟩ : ∃ b, ax = some ⟨b, 0, none⟩ ∧ ∀ j, j < M * 4 → wz.cell? ⟨b, j, none⟩ = some (.int .i64 (fn (spR 0 R) j)) := by
                rcases HX3.out _ hbel with ⟨x, z, e, e0⟩ | ⟨b, z, e, hb, _, _, hat⟩
                · omega
                · simp only [Value.slice.injEq] at e; exact ⟨b, e.1, hat⟩
              subst hxv
              have hni := HNI0.out i hlt
              have hiM : (i : Int) < (M : Int) := by omega
              obtain ⟨f2, hf2⟩ : ∃ f, fn (spR 0 R) (i * 4) = f := ⟨_, rfl⟩
              obtain ⟨s2, hs2⟩ : ∃ f, fn (spR 0 R) (i * 4 + 2) = f := ⟨_, rfl⟩
              obtain ⟨m2, hm2⟩ : ∃ f, fn (spR 0 R) (i * 4 + 3) = f := ⟨_, rfl⟩
              have d0 := hat (i * 4) (by omega)
              have d2 := hat (i * 4 + 2) (by omega)
              have d3 := hat (i * 4 + 3) (by omega)
              rw [hf2] at d0
              rw [hs2] at d2
              rw [hm2] at d3
              rw [hf2, hs2, hm2] at hni
              cases i with
              | zero =>
                have HNI : Hid (¬ (s2 = 10 ∧ m2 = 0) ∧ True) := ⟨hni.1, trivial⟩
                rw [Nat.zero_mul] at d0 d2 d3
                rw [Nat.zero_add] at d2 d3
                clear hni hat hf2 hs2 hm2 hbel
                by_cases hs : s2 = 10
                · subst hs
                  have hm : m2 ≠ 0 := fun e => HNI.out.1 ⟨rfl, e⟩
                  have hmb : (m2 == 0) = false := by simpa using hm
                  go_wp2_with fail
                  go_quiet (fail)
                  go_wp2_with fail
                  exact ⟨⟨1, by omega, by simp, HBE.out.trans ((below_draws _ _).mono HBE.out.size)⟩, by simp only [intOf]; omega⟩
                · have hsb : (s2 == 10) = false := by simpa using hs
                  go_wp2_with fail
                  go_quiet (fail)
                  go_wp2_with fail
                  exact ⟨⟨1, by omega, by simp, HBE.out.trans ((below_draws _ _).mono HBE.out.size)⟩, by simp only [intOf]; omega⟩
              | succ j =>
                obtain ⟨t1, ht1⟩ : ∃ f, fn (spR 0 R) (j * 4 + 1) = f := ⟨_, rfl⟩
                obtain ⟨s1, hs1⟩ : ∃ f, fn (spR 0 R) (j * 4 + 2) = f := ⟨_, rfl⟩
                obtain ⟨m1, hm1⟩ : ∃ f, fn (spR 0 R) (j * 4 + 3) = f := ⟨_, rfl⟩
                have c1 := hat (j * 4 + 1) (by omega)
                have c2 := hat (j * 4 + 2) (by omega)
                have c3 := hat (j * 4 + 3) (by omega)
                rw [ht1] at c1
                rw [hs1] at c2
                rw [hm1] at c3
                have hni2 := hni.2 (by omega)
                rw [Nat.add_sub_cancel, ht1, hs1, hm1] at hni2
                have HNI : Hid (¬ (s2 = 10 ∧ m2 = 0) ∧ ¬ (t1 = f2 ∧ s1 = s2 ∧ m1 = m2)) := ⟨hni.1, hni2⟩
                have hjM : (j : Int) < (M : Int) := by omega
                have hjM1 : (j : Int) + 1 < (M : Int) := by omega
                clear hni hni2 hat hf2 hs2 hm2 ht1 hs1 hm1 hbel
                by_cases hs : s2 = 10
                · subst hs
                  have hm : m2 ≠ 0 := fun e => HNI.out.1 ⟨rfl, e⟩
                  have hmb : (m2 == 0) = false := by simpa using hm
                  by_cases ht : t1 = f2
                  · subst ht
                    by_cases hq : s1 = 10
                    · have hq' := hq
                      subst hq'
                      have hm1 : (m1 == m2) = false := by simpa using fun e => HNI.out.2 ⟨rfl, rfl, e⟩
                      go_wp2_with fail
                      go_quiet (fail)
                      go_wp2_with fail
                      exact ⟨⟨j + 1 + 1, by omega, by simp, HBE.out.trans ((below_draws _ _).mono HBE.out.size)⟩, by simp only [intOf]; omega⟩
                    · have hsq : (s1 == 10) = false := by simpa using hq
                      go_wp2_with fail
                      go_quiet (fail)
                      go_wp2_with fail
                      exact ⟨⟨j + 1 + 1, by omega, by simp, HBE.out.trans ((below_draws _ _).mono HBE.out.size)⟩, by simp only [intOf]; omega⟩
                  · have htb : (t1 == f2) = false := by simpa using ht
                    go_wp2_with fail
                    go_quiet (fail)
                    go_wp2_with fail
                    exact ⟨⟨j + 1 + 1, by omega, by simp, HBE.out.trans ((below_draws _ _).mono HBE.out.size)⟩, by simp only [intOf]; omega⟩
                · have hsb : (s2 == 10) = false := by simpa using hs
                  by_cases ht : t1 = f2
                  · subst ht
                    by_cases hq : s1 = s2
                    · subst hq
                      have hm1 : (m1 == m2) = false := by simpa using fun e => HNI.out.2 ⟨rfl, rfl, e⟩
                      go_wp2_with fail
                      go_quiet (fail)
                      go_wp2_with fail
                      exact ⟨⟨j + 1 + 1, by omega, by simp, HBE.out.trans ((below_draws _ _).mono HBE.out.size)⟩, by simp only [intOf]; omega⟩
                    · have hsq : (s1 == s2) = false := by simpa using hq
                      go_wp2_with fail
                      go_quiet (fail)
                      go_wp2_with fail
                      exact ⟨⟨j + 1 + 1, by omega, by simp, HBE.out.trans ((below_draws _ _).mono HBE.out.size)⟩, by simp only [intOf]; omega⟩
                  · have htb : (t1 == f2) = false := by simpa using ht
                    go_wp2_with fail
                    go_quiet (fail)
                    go_wp2_with fail
                    exact ⟨⟨j + 1 + 1, by omega, by simp, HBE.out.trans ((below_draws _ _).mono HBE.out.size)⟩, by simp only [intOf]; omega⟩
            · have e : i = M := by omega
              subst e
              go_wp2_with fail
              refine (implSpansOk _ _ (spR 0 R) (k : Int) _ (HX3.out _ HBE.out)).mono ?_
              rintro e w10 ⟨rfl, b10⟩
              rw [HT.out]
              go_wp2_with fail
              refine (implPlain _ _ (spR 0 R) (k : Int) _ (HX3.out _ (bstep HBE.out b10))).mono ?_
              rintro e w11 ⟨⟨z, rfl, o11⟩, b11⟩
              rw [HPB.out, HM.out] at o11
              go_wp2_with fail
              refine (wcSpans_same _ _ _ (spR 0 R) _ o11.arg (HX3.out _ (bstep (bstep HBE.out b10) b11)) (by omega)).mono ?_
              rintro e w12 ⟨rfl, b12⟩
              go_wp2_with fail
              go_ret
              exact ⟨rfl, HB3.out.trans ((bstep (bstep (bstep HBE.out b10) b11) b12).mono HB3.out.size)⟩
end Go.Proofs.Ytobmdefklgkoiaa
