import Derived.Test.YtgjhhfmhaalcnaaStandS
namespace Go.Proofs.Ytgjhhfmhaalcnaa
open Go.ChangeShapes Go.WideShapes Go.ChangeAt Go.RowKit
set_option linter.unusedSimpArgs false

theorem specIn_q (n lo hi : Int) (w : World) (q : Bool) (hq : Hid (inB n lo hi = q)) : Calls Try.prog 36 #[.int .i64 n, .int .i64 lo, .int .i64 hi] w fun e w' => e = .returned (.bool q) ∧ w' = w := by
  rw [← hq.out]; exact specIn n lo hi w
theorem glyGd_in (f t : Int) (z : Nat → Int) (k : Nat) : glyGd f t z k = (inB (z (k * 5)) f (t - 1) && (inB (z (k * 5 + 2)) (-20000) 40000 && (inB (z (k * 5 + 3)) 0 20000 && inB (z (k * 5 + 4)) 0 22))) := by
  rw [Bool.eq_iff_iff]
  simp only [glyGd, inB, Bool.and_eq_true, decide_eq_true_eq]
  omega

set_option maxRecDepth 10000 in
set_option maxHeartbeats 1600000 in
theorem specMay (f t d : Int) (u : Value) (n : Nat) (z : List Int) (v : Value) (l : List Int) (w : World) (hu : ArgG w u n z) (hv : Arg w v l) (hl : l.length ≤ 1048576) (hn : n ≤ 1048576) (q : Bool) (hq : Hid (lineOk l f t d n (fn z) = q)) :
    Calls Try.prog 47 #[v, .agg #[.int .i64 f, .int .i64 t, .int .i64 d, u]] w fun e w' => e = .returned (.bool q) ∧ Below w.heap.size w w' := by
  have HV : Hid (∀ w', Below w.heap.size w w' → Arg w' v l) := fun w' b => hv.below b
  have HU : Hid (ArgG w u n z) := hu
  obtain ⟨xu, zu, rfl⟩ : ∃ xu zu, u = .slice xu n zu := by
    rcases hu with ⟨a, c, rfl, rfl⟩ | ⟨b, c, rfl, _⟩
    · exact ⟨_, _, rfl⟩
    · exact ⟨_, _, rfl⟩
  obtain ⟨av, cv, rfl⟩ : ∃ av cv, v = .slice av l.length cv := by obtain ⟨a, c, e, _⟩ := hv.rdI; exact ⟨a, c, e⟩
  obtain ⟨N, hN⟩ : ∃ N, l.length = N := ⟨_, rfl⟩
  have HN : Hid _ := hN
  obtain ⟨q0, hq0⟩ : ∃ q, okF (fn l) N = q := ⟨_, rfl⟩
  obtain ⟨q1, hq1⟩ : ∃ q, inB f 0 N = q := ⟨_, rfl⟩
  obtain ⟨q2, hq2⟩ : ∃ q, inB t f N = q := ⟨_, rfl⟩
  obtain ⟨q3, hq3⟩ : ∃ q, inB d 0 20000 = q := ⟨_, rfl⟩
  have HQ0 : Hid _ := hq0
  have HQ1 : Hid _ := hq1
  have HQ2 : Hid _ := hq2
  have HQ3 : Hid _ := hq3
  have HALL : Hid (q = true ↔ q0 = true ∧ q1 = true ∧ q2 = true ∧ q3 = true ∧ n ≤ 80 ∧ ∀ k, k < n → glyGd f t (fn z) k = true) := by
    show _ ↔ _
    rw [← hq.out]
    constructor
    · intro h
      obtain ⟨a, b, c, e, g⟩ := lineOk_out h
      rw [hN] at a b
      simp only [thereB, decide_eq_true_eq] at b
      simp only [in1, decide_eq_true_eq] at c
      refine ⟨by rw [← hq0]; exact a, by rw [← hq1]; simp only [inB, decide_eq_true_eq]; omega, by rw [← hq2]; simp only [inB, decide_eq_true_eq]; omega, by rw [← hq3]; simp only [inB, decide_eq_true_eq]; omega, e, g⟩
    · rintro ⟨a, b, c, e, g, hk⟩
      rw [← hq1] at b
      rw [← hq2] at c
      rw [← hq3] at e
      simp only [inB, decide_eq_true_eq] at b c e
      exact lineOk_yes (by rw [hN, hq0]; exact a) (by rw [hN]; simp only [thereB, decide_eq_true_eq]; omega) (by simp only [in1, decide_eq_true_eq]; omega) g hk
  have hl2 : N ≤ 1048576 := by omega
  rw [hN] at HV ⊢
  clear hu hv hN hq0 hq1 hq2 hq3
  have hfin : ∀ (w' : World), (q0 = false ∨ q1 = false ∨ q2 = false ∨ q3 = false ∨ ¬ n ≤ 80) → q = false := fun w' h => by
    cases hqq : q with
    | false => rfl
    | true => exfalso; have := HALL.out.1 hqq; rcases h with h | h | h | h | h <;> simp_all
  have HF : Hid _ := hfin
  clear hfin
  go_enter Try.func47, Try.ntmps47
  go_wp2_with fail
  refine (specOk _ l _ (HV.out _ (below_new _ _)) (by rw [HN.out]; omega)).mono ?_
  rintro e w1 ⟨rfl, rfl⟩
  rw [HN.out, HQ0.out]
  cases q0 with
  | false =>
    go_wp2_with fail
    go_ret
    exact ⟨retBool (HF.out w (by simp)).symm, below_new _ _⟩
  | true =>
    go_wp2_with fail
    refine (specIn_q _ _ _ _ q1 HQ1).mono ?_
    rintro e w1 ⟨rfl, rfl⟩
    cases q1 with
    | false =>
      go_wp2_with fail
      go_ret
      exact ⟨retBool (HF.out w (by simp)).symm, below_new _ _⟩
    | true =>
      go_wp2_with fail
      refine (specIn_q _ _ _ _ q2 HQ2).mono ?_
      rintro e w1 ⟨rfl, rfl⟩
      cases q2 with
      | false =>
        go_wp2_with fail
        go_ret
        exact ⟨retBool (HF.out w (by simp)).symm, below_new _ _⟩
      | true =>
        go_wp2_with fail
        refine (specIn_q _ _ _ _ q3 HQ3).mono ?_
        rintro e w1 ⟨rfl, rfl⟩
        cases q3 with
        | false =>
          go_wp2_with fail
          go_ret
          exact ⟨retBool (HF.out w (by simp)).symm, below_new _ _⟩
        | true =>
          have htb : 0 ≤ t ∧ t ≤ 1048576 := by
            have a := HQ1.out
            have b := HQ2.out
            simp only [inB, decide_eq_true_eq] at a b
            omega
          obtain ⟨ht0, ht1⟩ := htb
          by_cases h80 : n ≤ 80
          · have h80' : ¬ ((80 : Int) < (n : Int)) := by omega
            go_wp2_with fail
            go_loopw [5] (fun i wr => ∃ k : Nat, k ≤ n ∧ i = .int .i64 k ∧ Hid (∀ j, j < k → glyGd f t (fn z) j = true) ∧ Hid (Lies wr w.heap.size f t d (.slice xu n zu)) ∧ Below w.heap.size w wr) (fun i _ => n - (intOf i).toNat)
            case atStart => exact ⟨0, Nat.zero_le _, rfl, fun j hj => by omega, lies_new w f t d _, below_new _ _⟩
            case round =>
              obtain ⟨k, hk, rfl, hall, hl0, hbel⟩ := hrel
              have m0 := Lies.c0 hl0.out
              have m1 := Lies.c1 hl0.out
              have m3 := Lies.c3 hl0.out
              have hltP := Lies.lt hl0.out
              have hsz := hbel.size
              by_cases hlt : k < n
              · obtain ⟨g, rfl, hg, hat⟩ : ∃ g, xu = some ⟨g, 0, none⟩ ∧ g < w.heap.size ∧ ∀ j, j < n * 5 → w.cell? ⟨g, j, none⟩ = some (.int .i64 (fn z j)) := by
                  rcases HU.out with ⟨a, c, e, e2⟩ | ⟨g, c, e, h1, _, _, h4⟩
                  · omega
                  · simp only [Value.slice.injEq] at e; exact ⟨g, e.1, h1, h4⟩
                have c0 := (hbel.cell (p := ⟨g, k * 5, none⟩) hg).trans (hat _ (by omega))
                have c1 := (hbel.cell (p := ⟨g, k * 5 + 1, none⟩) hg).trans (hat _ (by omega))
                have c2 := (hbel.cell (p := ⟨g, k * 5 + 2, none⟩) hg).trans (hat _ (by omega))
                have c3 := (hbel.cell (p := ⟨g, k * 5 + 3, none⟩) hg).trans (hat _ (by omega))
                have c4 := (hbel.cell (p := ⟨g, k * 5 + 4, none⟩) hg).trans (hat _ (by omega))
                have hki : (k : Int) < (n : Int) := by omega
                have hne : w.heap.size ≠ wr.heap.size := by omega
                have HG := glyGd_in f t (fn z) k
                obtain ⟨p1, hp1⟩ : ∃ p, inB (fn z (k * 5)) f (t - 1) = p := ⟨_, rfl⟩
                obtain ⟨p2, hp2⟩ : ∃ p, inB (fn z (k * 5 + 2)) (-20000) 40000 = p := ⟨_, rfl⟩
                obtain ⟨p3, hp3⟩ : ∃ p, inB (fn z (k * 5 + 3)) 0 20000 = p := ⟨_, rfl⟩
                obtain ⟨p4, hp4⟩ : ∃ p, inB (fn z (k * 5 + 4)) 0 22 = p := ⟨_, rfl⟩
                rw [hp1, hp2, hp3, hp4] at HG
                have P1 : Hid _ := hp1
                have P2 : Hid _ := hp2
                have P3 : Hid _ := hp3
                have P4 : Hid _ := hp4
                have HGG : Hid _ := HG
                have HNO : Hid (∀ b, glyGd f t (fn z) k = b → b = false → q = false) := fun b h1 h2 => by
                  cases hqq : q with
                  | false => rfl
                  | true => exfalso; have := (HALL.out.1 hqq).2.2.2.2.2 k hlt; rw [h1, h2] at this; cases this
                have HB : Hid (∀ o, Below w.heap.size w (wr.alloc o)) := fun o => hbel.alloc hsz o
                have HLL : Hid (∀ o, Lies (wr.alloc o) w.heap.size f t d (.slice (some ⟨g, 0, none⟩) n zu)) := fun o => Lies.alloc hl0.out o
                clear hp1 hp2 hp3 hp4 HG hat
                go_wp2_with fail
                refine (specIn_q _ _ _ _ p1 P1).mono ?_
                rintro e w1 ⟨rfl, rfl⟩
                cases p1 with
                | false =>
                  go_wp2_with fail
                  go_ret
                  exact ⟨retBool (HNO.out _ HGG.out (by simp)).symm, HB.out _⟩
                | true =>
                  go_wp2_with fail
                  refine (specIn_q _ _ _ _ p2 P2).mono ?_
                  rintro e w1 ⟨rfl, rfl⟩
                  cases p2 with
                  | false =>
                    go_wp2_with fail
                    go_ret
                    exact ⟨retBool (HNO.out _ HGG.out (by simp)).symm, HB.out _⟩
                  | true =>
                    go_wp2_with fail
                    refine (specIn_q _ _ _ _ p3 P3).mono ?_
                    rintro e w1 ⟨rfl, rfl⟩
                    cases p3 with
                    | false =>
                      go_wp2_with fail
                      go_ret
                      exact ⟨retBool (HNO.out _ HGG.out (by simp)).symm, HB.out _⟩
                    | true =>
                      go_wp2_with fail
                      refine (specIn_q _ _ _ _ p4 P4).mono ?_
                      rintro e w1 ⟨rfl, rfl⟩
                      cases p4 with
                      | false =>
                        go_wp2_with fail
                        go_ret
                        exact ⟨retBool (HNO.out _ HGG.out (by simp)).symm, HB.out _⟩
                      | true =>
                        go_wp2_with fail
                        refine ⟨⟨k + 1, by omega, by go_num, fun j hj => ?_, HLL.out _, HB.out _⟩, by simp only [intOf]; omega⟩
                        by_cases e : j = k
                        · subst e; rw [HGG.out]; rfl
                        · exact hall.out j (by omega)
              · have e : k = n := by omega
                subst e
                have HT : Hid (q = true) := HALL.out.2 (by first | exact ⟨rfl, rfl, rfl, rfl, h80, hall.out⟩ | exact ⟨trivial, trivial, trivial, trivial, h80, hall.out⟩ | exact ⟨h80, hall.out⟩)
                go_wp2_with fail
                go_ret
                exact ⟨retBool HT.out.symm, hbel⟩
          · have h80' : (80 : Int) < (n : Int) := by omega
            go_wp2_with fail
            go_ret
            exact ⟨retBool (HF.out w (by simp [h80])).symm, below_new _ _⟩
end Go.Proofs.Ytgjhhfmhaalcnaa
