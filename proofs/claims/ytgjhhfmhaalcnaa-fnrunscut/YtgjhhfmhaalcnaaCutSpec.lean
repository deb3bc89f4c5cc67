import Derived.Test.YtgjhhfmhaalcnaaCutFn
namespace Go.Proofs.Ytgjhhfmhaalcnaa
open Go.ChangeShapes Go.WideShapes Go.ChangeAt Go.RowKit
set_option linter.unusedSimpArgs false

theorem specWholeQ (a : Option Addr) (n cap : Nat) (l : List Int) (w : World) (q : Bool) (h : RR w a n l) (hn : n ≤ maxLen) (hq : (wB (fn l) n && decide (wE (fn l) n ≤ 80)) = q) :
    Calls Try.prog 44 #[.slice a n cap] w fun e w' => e = .returned (.bool q) ∧ w' = w := by
  rw [← hq]; exact specWhole a n cap l w h hn
theorem specLeast_le (x y : Int) (w : World) (h : x ≤ y) : Calls Try.prog 45 #[.int .i64 x, .int .i64 y] w fun e w' => e = .returned (.int .i64 x) ∧ w' = w := by
  have := specLeastR x y w; rwa [leastI_le h] at this
theorem specLeast_ge (x y : Int) (w : World) (h : y ≤ x) : Calls Try.prog 45 #[.int .i64 x, .int .i64 y] w fun e w' => e = .returned (.int .i64 y) ∧ w' = w := by
  have := specLeastR x y w; rwa [leastI_gt h] at this
theorem emptyRR (w : World) (B : Nat) (h : B ≤ w.heap.size) : OwnR (w.alloc (.cells #[] 38)) B (.slice (some ⟨w.heap.size, 0, none⟩) 0 0) 0 [] :=
  ⟨by simp, .inr ⟨w.heap.size, 0, #[], rfl, h, heap_alloc_new w _, Nat.le_refl _, by unfold maxLen; omega, rfl, rfl⟩⟩
theorem RR.drewN {w : World} {a : Option Addr} {n : Nat} {l : List Int} (h : RR w a n l) (k : Nat) : RR (w.drewN k) a n l := h.step (below_draws w k)

set_option maxRecDepth 10000 in
set_option maxHeartbeats 1000000 in
theorem specCut (v u : Value) (n m B1 B2 : Nat) (la lb : List Int) (w : World) (h1 : OwnR w B1 v n la) (h2 : OwnR w B2 u m lb) :
    Calls Try.prog 17 #[v, u] w fun e w' => (∃ v' c, e = .returned v' ∧ OwnR w' w.heap.size v' c (cutL la lb n m)) ∧ Below w.heap.size w w' := by
  obtain ⟨a, ca, rfl, hn, ra, _⟩ := h1.rr
  obtain ⟨b, cb, rfl, hm, rb, _⟩ := h2.rr
  have B0 : Below w.heap.size w (w.alloc (.cells #[] 38)) := (Below.refl _ _).alloc (Nat.le_refl _) _
  have HRA : Hid (RR w a n la) := ra
  have HRB : Hid (RR w b m lb) := rb
  have HO0 : Hid (OwnR (w.alloc (.cells #[] 38)) w.heap.size (.slice (some ⟨w.heap.size, 0, none⟩) 0 0) 0 []) := emptyRR w w.heap.size (Nat.le_refl _)
  have HRA0 : Hid (∀ k, RR ((w.alloc (.cells #[] 38)).drewN k) a n la) := fun k => (ra.step B0).drewN k
  have HRB0 : Hid (∀ k, RR ((w.alloc (.cells #[] 38)).drewN k) b m lb) := fun k => (rb.step B0).drewN k
  have HB0 : Hid _ := B0
  have hn2 : (n : Int) ≤ 9223372036854775807 := by unfold maxLen at hn; omega
  have hm2 : (m : Int) ≤ 9223372036854775807 := by unfold maxLen at hm; omega
  clear ra rb h1 h2 B0
  cases hwa : (wB (fn la) n && decide (wE (fn la) n ≤ 80))
  · have HN : Hid (cutL la lb n m = []) := cutL_no (fun t => by have h1 := t.wz; have h2 := t.le; simp [h1, h2] at hwa)
    have HCA : Hid (∀ k, Calls Try.prog 44 #[.slice a n ca] ((w.alloc (.cells #[] 38)).drewN k) fun e w' => e = .returned (.bool false) ∧ w' = (w.alloc (.cells #[] 38)).drewN k) := fun k => specWholeQ a n ca la _ false (HRA0.out k) hn hwa
    clear hwa
    go_enter Try.func17, Try.ntmps17
    go_wp2_with fail
    go_quiet ((go_at_call 44; with_reducible exact Calls.quiet_of_same (HCA.out _)))
    go_wp2_with fail
    go_ret
    exact ⟨⟨_, 0, rfl, by rw [HN.out]; exact HO0.out⟩, HB0.out.trans ((below_draws _ _).mono (by simp))⟩
  · cases hwb : (wB (fn lb) m && decide (wE (fn lb) m ≤ 80))
    · have HN : Hid (cutL la lb n m = []) := cutL_no (fun t => by have h1 := t.wy; have h2 := t.le; rw [t.same] at h2; simp [h1, h2] at hwb)
      have HCA : Hid (∀ k, Calls Try.prog 44 #[.slice a n ca] ((w.alloc (.cells #[] 38)).drewN k) fun e w' => e = .returned (.bool true) ∧ w' = (w.alloc (.cells #[] 38)).drewN k) := fun k => specWholeQ a n ca la _ true (HRA0.out k) hn hwa
      have HCB : Hid (∀ k, Calls Try.prog 44 #[.slice b m cb] ((w.alloc (.cells #[] 38)).drewN k) fun e w' => e = .returned (.bool false) ∧ w' = (w.alloc (.cells #[] 38)).drewN k) := fun k => specWholeQ b m cb lb _ false (HRB0.out k) hm hwb
      clear hwa hwb
      go_enter Try.func17, Try.ntmps17
      go_wp2_with fail
      go_quiet ((go_at_call 44; first | with_reducible exact Calls.quiet_of_same (HCA.out _) | with_reducible exact Calls.quiet_of_same (HCB.out _)))
      go_wp2_with fail
      go_ret
      exact ⟨⟨_, 0, rfl, by rw [HN.out]; exact HO0.out⟩, HB0.out.trans ((below_draws _ _).mono (by simp))⟩
    · have HCA : Hid (∀ k, Calls Try.prog 44 #[.slice a n ca] ((w.alloc (.cells #[] 38)).drewN k) fun e w' => e = .returned (.bool true) ∧ w' = (w.alloc (.cells #[] 38)).drewN k) := fun k => specWholeQ a n ca la _ true (HRA0.out k) hn hwa
      have HCB : Hid (∀ k, Calls Try.prog 44 #[.slice b m cb] ((w.alloc (.cells #[] 38)).drewN k) fun e w' => e = .returned (.bool true) ∧ w' = (w.alloc (.cells #[] 38)).drewN k) := fun k => specWholeQ b m cb lb _ true (HRB0.out k) hm hwb
      by_cases hn0 : n = 0
      · have HN : Hid (cutL la lb n m = []) := cutL_no (fun t => by have := t.n0; omega)
        have hnb : ((n : Int) == 0) = true := by simp; omega
        clear hwa hwb hn0
        go_enter Try.func17, Try.ntmps17
        go_wp2_with fail
        go_quiet ((go_at_call 44; first | with_reducible exact Calls.quiet_of_same (HCA.out _) | with_reducible exact Calls.quiet_of_same (HCB.out _)))
        go_wp2_with fail
        go_ret
        exact ⟨⟨_, 0, rfl, by rw [HN.out]; exact HO0.out⟩, HB0.out.trans ((below_draws _ _).mono (by simp))⟩
      · by_cases hm0 : m = 0
        · have HN : Hid (cutL la lb n m = []) := cutL_no (fun t => by have := t.m0; omega)
          have hnb : ((n : Int) == 0) = false := by simp; omega
          have hmb : ((m : Int) == 0) = true := by simp; omega
          clear hwa hwb hn0 hm0
          go_enter Try.func17, Try.ntmps17
          go_wp2_with fail
          go_quiet ((go_at_call 44; first | with_reducible exact Calls.quiet_of_same (HCA.out _) | with_reducible exact Calls.quiet_of_same (HCB.out _)))
          go_wp2_with fail
          go_ret
          exact ⟨⟨_, 0, rfl, by rw [HN.out]; exact HO0.out⟩, HB0.out.trans ((below_draws _ _).mono (by simp))⟩
        · have hnb : ((n : Int) == 0) = false := by simp; omega
          have hmb : ((m : Int) == 0) = false := by simp; omega
          obtain ⟨n', hn'⟩ : ∃ n', n = n' + 1 := ⟨n - 1, by omega⟩
          obtain ⟨m', hm'⟩ : ∃ m', m = m' + 1 := ⟨m - 1, by omega⟩
          obtain ⟨ga, rfl, hga, _, za1, _⟩ := (HRA0.out 0).three (k := n') (by omega)
          obtain ⟨gb, rfl, hgb, _, zb1, _⟩ := (HRB0.out 0).three (k := m') (by omega)
          have za : (w.alloc (.cells #[] 38)).cell? ⟨ga, n' * 3 + 1, none⟩ = some (.int .i64 (fn la (n' * 3 + 1))) := za1
          have zb : (w.alloc (.cells #[] 38)).cell? ⟨gb, m' * 3 + 1, none⟩ = some (.int .i64 (fn lb (m' * 3 + 1))) := zb1
          have hni : (n : Int) - 1 = (n' : Int) := by omega
          have hmi : (m : Int) - 1 = (m' : Int) := by omega
          have hnl : (n' : Int) < (n : Int) := by omega
          have hml : (m' : Int) < (m : Int) := by omega
          have HZN : Hid (wE (fn la) n = fn la (n' * 3 + 1)) := by show _ = _; rw [hn']; rfl
          have HYM : Hid (wE (fn lb) m = fn lb (m' * 3 + 1)) := by show _ = _; rw [hm']; rfl
          have HT0 : Hid (fn la (n' * 3 + 1) = fn lb (m' * 3 + 1) → Two (fn la) (fn lb) n m) := fun e => by
            simp only [Bool.and_eq_true, decide_eq_true_eq] at hwa hwb
            exact ⟨hwa.1, hwb.1, by omega, by omega, by rw [HZN.out, HYM.out]; exact e, hwa.2⟩
          have HT1 : Hid (fn la (n' * 3 + 1) ≠ fn lb (m' * 3 + 1) → cutL la lb n m = []) := fun e => cutL_no (fun t => e (by rw [← HZN.out, ← HYM.out]; exact t.same))
          obtain ⟨Z, hZ⟩ : ∃ x, fn la (n' * 3 + 1) = x := ⟨_, rfl⟩
          obtain ⟨Y, hY⟩ : ∃ x, fn lb (m' * 3 + 1) = x := ⟨_, rfl⟩
          rw [hZ, hY] at HT0 HT1
          rw [hZ] at za
          rw [hY] at zb
          clear za1 zb1 hZ hY hn' hm' hwa hwb hn0 hm0 HZN HYM
          by_cases hzy : Z = Y
          · have HT : Hid _ := HT0.out hzy
            have hq : (Z != Y) = false := by simpa using hzy
            have hq2 : (Z == Y) = true := by simpa using hzy
            clear hzy
            go_enter Try.func17, Try.ntmps17
            go_wp2_with fail
            go_quiet ((go_at_call 44; first | with_reducible exact Calls.quiet_of_same (HCA.out _) | with_reducible exact Calls.quiet_of_same (HCB.out _)))
            clear za zb hni hmi hnl hml hq hq2
            go_wp2_with fail
            have HB1 : Hid (Below w.heap.size w ((w.alloc (.cells #[] 38)).drewN nq)) := HB0.out.trans ((below_draws _ _).mono (by simp))
            have HO1 : Hid (OwnR ((w.alloc (.cells #[] 38)).drewN nq) w.heap.size (.slice (some ⟨w.heap.size, 0, none⟩) 0 0) 0 []) := HO0.out
            obtain ⟨W0, hW0⟩ : ∃ W0, (w.alloc (.cells #[] 38)).drewN nq = W0 := ⟨_, rfl⟩
            rw [hW0] at HB1 HO1 ⊢
            obtain ⟨hn80, hm80⟩ := Two.sizes HT.out
            have hn1 := Two.n0 HT.out
            have hsw := HB1.out.size
            obtain ⟨TT, hTT⟩ : ∃ TT, cutR (fn la) (fn lb) n (n + m) 0 0 0 = TT := ⟨_, rfl⟩
            have HTT : Hid _ := hTT
            have HLZ : Hid (∀ i, i < n → fn la (i * 3) = wE (fn la) i) := fun i hi => (wB_at (Two.wz HT.out) hi).1
            clear hW0 hTT HB0 HO0 HCA HCB HRA0 HRB0
            go_loopw [5, 6, 7] (fun q kv iv wr => ∃ (i k c d : Nat) (O : List Int), i ≤ n ∧ k ≤ m ∧ iv = .int .i64 i ∧ kv = .int .i64 k ∧ c + d ≤ 160 ∧ Hid (n - i + (m - k) ≤ d) ∧ Hid (i < n → St (fn la) (fn lb) n m (wE (fn la) i) i k) ∧ OwnR wr w.heap.size q c O ∧ Hid (O ++ cutR (fn la) (fn lb) n d (wE (fn la) i) i k = TT) ∧ Below w.heap.size w wr) (fun _ _ iv _ => n - (intOf iv).toNat)
            case atStart => exact ⟨0, 0, 0, n + m, [], by omega, by omega, rfl, rfl, by omega, by show _ ≤ _; omega, fun _ => St.start HT.out, HO1.out, by show _ = _; rw [← HTT.out]; rfl, HB1.out⟩
            case round =>
              obtain ⟨i, k, c, d, O, hi, hk, rfl, rfl, hcd, hd, hst, ho, htt, hbel⟩ := hrel
              by_cases hlt : i < n
              · have hii : (i : Int) < (n : Int) := by omega
                have RA1 := HRA.out.step hbel
                obtain ⟨ga', e, _, x0, x1, x2⟩ := RA1.three hlt
                simp only [Option.some.injEq, Addr.mk.injEq] at e
                obtain ⟨rfl, _⟩ := e
                rw [HLZ.out i hlt] at x0
                obtain ⟨Z1, hZ1⟩ : ∃ x, fn la (i * 3 + 1) = x := ⟨_, rfl⟩
                have HZ1 : Hid (fn la (i * 3 + 1) = Z1) := hZ1
                have HST := hst.out hlt
                have HST2 : Hid _ := HST
                have hfz : wE (fn la) i < Z1 := by have := HST.zt; omega
                obtain ⟨f0, hf0⟩ : ∃ x, wE (fn la) i = x := ⟨_, rfl⟩
                rw [hf0] at HST2 x0 hfz htt
                have HE1 : Hid (wE (fn la) (i + 1) = Z1) := by show _ = _; rw [← hZ1]; rfl
                clear HST hZ1 hf0 x1 x2 RA1
                go_wp2_with fail
                go_loopw [5, 6, 8] (fun q kv fv wr => ∃ (k c d : Nat) (f : Int) (O : List Int), k ≤ m ∧ kv = .int .i64 k ∧ fv = .int .i64 f ∧ c + d ≤ 160 ∧ OwnR wr w.heap.size q c O ∧ Below w.heap.size w wr ∧ ((f < Z1 ∧ Hid (n - i + (m - k) ≤ d ∧ St (fn la) (fn lb) n m f i k ∧ O ++ cutR (fn la) (fn lb) n d f i k = TT)) ∨ (f = Z1 ∧ Hid (n - (i + 1) + (m - k) ≤ d ∧ (i + 1 < n → St (fn la) (fn lb) n m f (i + 1) k) ∧ O ++ cutR (fn la) (fn lb) n d f (i + 1) k = TT)))) (fun _ _ fv _ => (Z1 - intOf fv).toNat)
                case atStart => exact ⟨k, c, d, f0, O, hk, rfl, rfl, hcd, ho, hbel, .inl ⟨hfz, hd.out, HST2.out, htt.out⟩⟩
                case round =>
                  clear x0 ho hbel htt hst hd hcd HST2 hk hfz
                  obtain ⟨k, c, d, f, O, hk, rfl, rfl, hcd, ho, hbel, hway⟩ := hrel
                  have RA1 := HRA.out.step hbel
                  obtain ⟨ga', e, _, _, x1, x2⟩ := RA1.three hlt
                  simp only [Option.some.injEq, Addr.mk.injEq] at e
                  obtain ⟨rfl, _⟩ := e
                  rw [HZ1.out] at x1
                  rcases hway with ⟨hfz, hh⟩ | ⟨rfl, hh⟩
                  · have hst := hh.out.2.1
                    have HST : Hid (St (fn la) (fn lb) n m f i k) := hst
                    have hkl := hst.k_lt
                    have hki : (k : Int) < (m : Int) := by omega
                    have RB1 := HRB.out.step hbel
                    obtain ⟨gb', e, _, _, y1, _⟩ := RB1.three hkl
                    simp only [Option.some.injEq, Addr.mk.injEq] at e
                    obtain ⟨rfl, _⟩ := e
                    obtain ⟨d', rfl⟩ : ∃ d', d = d' + 1 := ⟨d - 1, by have := hh.out.1; omega⟩
                    obtain ⟨Y1, hY1⟩ : ∃ x, fn lb (k * 3 + 1) = x := ⟨_, rfl⟩
                    have HY1 : Hid (fn lb (k * 3 + 1) = Y1) := hY1
                    have hfy : f < Y1 := by have := hst.yt; omega
                    rw [hY1] at y1
                    obtain ⟨Z2, hZ2⟩ : ∃ x, fn la (i * 3 + 2) = x := ⟨_, rfl⟩
                    have HZ2 : Hid (fn la (i * 3 + 2) = Z2) := hZ2
                    rw [hZ2] at x2
                    have HYB : Hid (∀ w', Below w.heap.size w w' → w'.cell? ⟨gb, k * 3 + 1, none⟩ = some (.int .i64 Y1)) := fun w' hb => by
                      obtain ⟨g', e, _, _, y, _⟩ := (HRB.out.step hb).three hkl
                      simp only [Option.some.injEq, Addr.mk.injEq] at e
                      obtain ⟨rfl, _⟩ := e
                      rw [y, HY1.out]
                    have hbs := hbel.size
                    clear RA1 RB1 hst hY1 hZ2
                    by_cases e1 : Z1 ≤ Y1
                    · have HC : Hid (cutR (fn la) (fn lb) n (d' + 1) f i k = [f, Z1, Z2] ++ cutR (fn la) (fn lb) n d' Z1 (i + 1) (if Y1 ≤ Z1 then k + 1 else k)) := by
                        have := cutR_fst (z := fn la) (y := fn lb) (n := n) (d := d') (f := f) (k := k) hlt (by rw [HZ1.out, HY1.out]; exact e1)
                        rw [HZ1.out, HZ2.out, HY1.out] at this; exact this
                      have HS : Hid (i + 1 < n → St (fn la) (fn lb) n m Z1 (i + 1) (if Y1 ≤ Z1 then k + 1 else k)) := fun hi1 => by
                        have := HST.out.fst HT.out (by rw [HZ1.out, HY1.out]; exact e1) hi1
                        rw [HZ1.out, HY1.out] at this; exact this
                      have HE : Hid (Z1 ≤ Y1) := e1
                      go_wp2_with fail
                      go_quiet ((go_at_call 45; exact Calls.quiet_of_same (specLeast_le Z1 Y1 _ HE.out)))
                      by_cases e2 : Y1 ≤ Z1
                      · have ey : Z1 = Y1 := by omega
                        have ey2 : (Z1 == Y1) = true := by simpa using ey
                        rw [if_pos e2] at HC HS
                        have HEQ : Hid (Z1 = Y1) := ey
                        clear ey
                        go_wp2_with (at_builtin; refine own_appendR (.tmp 76) (.tmp 85) (ho.below (below_draws _ nq)) (by omega) hbs rfl rfl rfl rfl ?_; intro v5 w5 o5 g5; have B5 : Below w.heap.size w w5 := (bstep hbel (below_draws wr nq)).grown g5 hbs (fun k hk => (ho.lt k hk).1); have y5 := HYB.out w5 B5; clear y1 x1 x2)
                        refine ⟨⟨k + 1, c + 1, d', Z1, O ++ [f, Z1, Z2], by omega, by go_num, rfl, by omega, o5, B5, .inr ⟨rfl, ?_⟩⟩, by simp only [intOf]; omega⟩
                        exact ⟨by have := hh.out.1; omega, HS.out, by rw [← hh.out.2.2, HC.out, List.append_assoc]⟩
                      · have ey2 : (Z1 == Y1) = false := by simp; omega
                        rw [if_neg e2] at HC HS
                        go_wp2_with (at_builtin; refine own_appendR (.tmp 76) (.tmp 85) (ho.below (below_draws _ nq)) (by omega) hbs rfl rfl rfl rfl ?_; intro v5 w5 o5 g5; have B5 : Below w.heap.size w w5 := (bstep hbel (below_draws wr nq)).grown g5 hbs (fun k hk => (ho.lt k hk).1); have y5 := HYB.out w5 B5; clear y1 x1 x2)
                        refine ⟨⟨k, c + 1, d', Z1, O ++ [f, Z1, Z2], by omega, rfl, rfl, by omega, o5, B5, .inr ⟨rfl, ?_⟩⟩, by simp only [intOf]; omega⟩
                        exact ⟨by have := hh.out.1; omega, HS.out, by rw [← hh.out.2.2, HC.out, List.append_assoc]⟩
                    · have HC : Hid (cutR (fn la) (fn lb) n (d' + 1) f i k = [f, Y1, Z2] ++ cutR (fn la) (fn lb) n d' Y1 i (k + 1)) := by
                        have := cutR_snd (z := fn la) (y := fn lb) (n := n) (d := d') (f := f) (k := k) hlt (by rw [HZ1.out, HY1.out]; exact e1)
                        rw [HZ2.out, HY1.out] at this; exact this
                      have HS : Hid (St (fn la) (fn lb) n m Y1 i (k + 1)) := by
                        have := HST.out.snd HT.out (by rw [HZ1.out, HY1.out]; exact e1)
                        rw [HY1.out] at this; exact this
                      have HE : Hid (Y1 ≤ Z1) := by show _ ≤ _; omega
                      have e3 : Y1 < Z1 := by omega
                      clear e1
                      go_wp2_with fail
                      go_quiet ((go_at_call 45; exact Calls.quiet_of_same (specLeast_ge Z1 Y1 _ HE.out)))
                      go_wp2_with (at_builtin; refine own_appendR (.tmp 76) (.tmp 85) (ho.below (below_draws _ nq)) (by omega) hbs rfl rfl rfl rfl ?_; intro v5 w5 o5 g5; have B5 : Below w.heap.size w w5 := (bstep hbel (below_draws wr nq)).grown g5 hbs (fun k hk => (ho.lt k hk).1); have y5 := HYB.out w5 B5; clear y1 x1 x2)
                      refine ⟨⟨k + 1, c + 1, d', Y1, O ++ [f, Y1, Z2], by omega, by go_num, rfl, by omega, o5, B5, .inl ⟨e3, ?_⟩⟩, by simp only [intOf]; omega⟩
                      exact ⟨by have := hh.out.1; omega, HS.out, by rw [← hh.out.2.2, HC.out, List.append_assoc]⟩
                  · go_wp2_with fail
                    refine ⟨⟨i + 1, k, c, d, O, by omega, hk, by go_num, rfl, hcd, hh.out.1, ?_, ho, ?_, hbel⟩, by simp only [intOf]; omega⟩
                    · rw [HE1.out]; exact hh.out.2.1
                    · rw [HE1.out]; exact hh.out.2.2
              · have e : i = n := by omega
                subst e
                go_wp2_with fail
                go_ret
                exact ⟨⟨_, c, rfl, by rw [cutL_yes HT.out, HTT.out, ← htt.out, cutR_end, List.append_nil]; exact ho⟩, hbel⟩
          · have HN : Hid _ := HT1.out hzy
            have hq : (Z != Y) = true := by simpa using hzy
            have hq2 : (Z == Y) = false := by simpa using hzy
            clear hzy
            go_enter Try.func17, Try.ntmps17
            go_wp2_with fail
            go_quiet ((go_at_call 44; first | with_reducible exact Calls.quiet_of_same (HCA.out _) | with_reducible exact Calls.quiet_of_same (HCB.out _)))
            go_wp2_with fail
            go_ret
            exact ⟨⟨_, 0, rfl, by rw [HN.out]; exact HO0.out⟩, HB0.out.trans ((below_draws _ _).mono (by simp))⟩
end Go.Proofs.Ytgjhhfmhaalcnaa
