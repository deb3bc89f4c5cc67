import Derived.Test.YtnaiaponkafcpaaWeakFn
import Derived.Test.YtnaiaponkafcpaaPlainTop
import Derived.Test.YtnaiaponkafcpaaDrawCl
import Derived.Test.YtnaiaponkafcpaaWc
namespace Go.Proofs.Ytnaiaponkafcpaa
open Go.ChangeShapes Go.WideShapes Go.ChangeAt Go.RowKit
set_option linter.unusedSimpArgs false

theorem among_12 (a b lv : Int) : among a b lv = 1 ∨ among a b lv = 2 := by
  unfold among
  split
  · unfold ownOf; split <;> simp
  · rename_i h
    have : like a = 0 ∨ like a = 1 ∨ like a = 2 := by unfold like; by_cases h1 : a = 1 <;> by_cases h2 : a = 2 ∨ a = 4 ∨ a = 7 <;> simp [h1, h2]
    omega
theorem plain_none {z : Nat → Int} {n : Nat} {b a lv : Int} {k : Nat} (h : noP (z k) = true) : plainAt z n b a lv k = 1 ∨ plainAt z n b a lv k = 2 := by
  unfold plainAt; rw [if_pos h]; exact among_12 _ _ _
theorem noP_12 {c : Int} (h : c = 1 ∨ c = 2) : noP c = false := by rcases h with rfl | rfl <;> decide
theorem plain_mid {z : Nat → Int} {n : Nat} {b a lv c : Int} {j : Nat} (h : noP (z (j + 1)) = true) (hj : j + 2 < n) (h1 : z j = c) (h2 : z (j + 2) = c) (hc : c = 1 ∨ c = 2) : plainAt z n b a lv (j + 1) = c := by
  unfold plainAt
  rw [if_pos h, ahP_hit (by rw [h1]; exact noP_12 hc), bhP_step (by omega) h, bhP_hit (by omega) (by rw [h2]; exact noP_12 hc), h1, h2]
  rcases hc with rfl | rfl <;> simp [among, like]
theorem plain_done {l : List Int} {b a lv : Int} {j : Nat} (hj : j < l.length) : noP (fn (plainL l b a lv) j) = false := by
  rw [fn_plainL hj]
  by_cases h : noP (fn l j) = true
  · exact noP_12 (plain_none h)
  · have h' : noP (fn l j) = false := by simpa using h
    rw [plain_other h']; exact h'
theorem plain_same {l : List Int} {b a lv : Int} : plainL (plainL l b a lv) b a lv = plainL l b a lv :=
  ext_fn (by simp [plainL_len]) (fun j hj => by
    have hj2 : j < l.length := by simpa [plainL_len] using hj
    rw [fn_plainL (by rw [plainL_len]; exact hj2), plain_other (plain_done hj2)])
theorem plain_cls {l : List Int} {b a lv : Int} (hc : clsOk (fn l) l.length = true) : clsOk (fn (plainL l b a lv)) (plainL l b a lv).length = true := by
  obtain ⟨h1, h2⟩ := clsOk_out hc
  rw [clsOk_yes (fun j hj => ?_), plainL_len]
  · simpa using h1
  · rw [plainL_len] at hj
    rw [fn_plainL hj]
    by_cases h : noP (fn l j) = true
    · rcases plain_none (n := l.length) (b := b) (a := a) (lv := lv) h with e | e <;> omega
    · rw [plain_other (by simpa using h)]; exact h2 j hj
theorem plainR_again {l : List Int} {b a lv : Int} (h : clsOk (fn l) l.length = true ∧ sideB b = true ∧ sideB a = true ∧ lvB lv = true) : plainR (plainL l b a lv) b a lv = plainL l b a lv := by
  rw [plainR_yes ⟨plain_cls h.1, h.2⟩, plain_same]

set_option maxHeartbeats 1000000 in
theorem wcIn_b (n lo hi : Int) (w : World) (q : Bool) (hq : Hid (decide (lo ≤ n ∧ n ≤ hi) = q)) : Calls Try.prog 13 #[.int .i64 n, .int .i64 lo, .int .i64 hi] w fun e w' => e = .returned (.bool q) ∧ w' = w := by
  by_cases h1 : lo ≤ n
  · by_cases h2 : n ≤ hi
    · have HQ : Hid (q = true) := by show _ = _; rw [← hq.out]; simpa using ⟨h1, h2⟩
      go_enter Try.func13, Try.ntmps13
      go_wp2
      go_ret
      exact ⟨retBool HQ.out.symm, rfl⟩
    · have HQ : Hid (q = false) := by show _ = _; rw [← hq.out]; simp; omega
      go_enter Try.func13, Try.ntmps13
      go_wp2
      go_ret
      exact ⟨retBool HQ.out.symm, rfl⟩
  · have HQ : Hid (q = false) := by show _ = _; rw [← hq.out]; simp; omega
    go_enter Try.func13, Try.ntmps13
    go_wp2
    go_ret
    exact ⟨retBool HQ.out.symm, rfl⟩

set_option maxRecDepth 10000 in
set_option maxHeartbeats 16000000 in
theorem plainLaw (a : Option Addr) (len cap : Nat) (w : World) (h : Bytes w a len cap) :
    Calls Try.prog 5 #[.slice a len cap] w fun e w' => e = .returned (.bool true) ∧ Below w.heap.size w w' := by
  by_cases hbig : 1048576 < len
  · have hbig2 : (1048576 : Int) < (len : Int) := by omega
    go_enter Try.func5, Try.ntmps5
    go_wp2_with fail
    go_ret
    exact ⟨rfl, Below.refl _ _⟩
  · have hl2 : (len : Int) ≤ 1048576 := by omega
    have HSW : Hid (∀ (v : Value) (l : List Int) (w : World) (a0 : Option Addr) (n cap0 : Nat), v = .slice a0 n cap0 → l.length = n → Arg w v l → n ≤ 80 → Calls Try.prog 17 #[v, .int .i64 1] w fun e w' => (∃ v' l', e = .returned v' ∧ OwnI w' w.heap.size v' l' ∧ l'.length ≤ 80) ∧ Below w.heap.size w w') := by
      intro v l w a0 n cap0 hv hn ha hn80
      refine (specWeak v l 1 w a0 cap0 (by rw [hn]; exact hv) ha (by omega)).mono ?_
      rintro e w' ⟨⟨v', rfl, ho⟩, hb⟩
      exact ⟨⟨v', _, rfl, ho, by have := weakR_len l 1; omega⟩, hb⟩
    go_enter Try.func5, Try.ntmps5
    go_wp2_with fail
    refine (drawPlain a len cap w h HSW).mono ?_
    rintro e w1 ⟨⟨v, l, nb, nc, lv, rfl, hb2, hc2, hlv4, o1, hlen⟩, b1⟩
    obtain ⟨b, hb⟩ : ∃ b : Int, 1 + (nb : Int) = b := ⟨_, rfl⟩
    obtain ⟨c, hc⟩ : ∃ c : Int, 1 + (nc : Int) = c := ⟨_, rfl⟩
    obtain ⟨t, ht⟩ : ∃ t : Int, (lv : Int) = t := ⟨_, rfl⟩
    rw [hb, hc, ht]
    have ht0 : 0 ≤ t := by omega
    clear hb hc ht hb2 hc2 hlv4
    obtain ⟨av, n, cv, rfl, hn⟩ := o1.slc
    have HN : Hid _ := hn
    have hn80 : n ≤ 80 := by omega
    have HL6 : Hid (l.length ≤ 1048576) := show l.length ≤ 1048576 by omega
    have hwl := plainR_len l b c t
    obtain ⟨X, hX⟩ : ∃ X, plainR l b c t = X := ⟨_, rfl⟩
    rw [hX] at hwl
    have HX : Hid _ := hX
    have HX4 : Hid (X.length ≤ 4194304) := show X.length ≤ 4194304 by omega
    clear hn hX
    go_wp2_with fail
    refine (implPlain _ l b c t _ av cv (by rw [HN.out]) o1.arg HL6.out).mono ?_
    rintro e w2 ⟨⟨vx, rfl, ox2⟩, b2⟩
    rw [HX.out] at ox2
    have o2 := o1.below b2
    have B2 := bstep b1 b2
    go_wp2_with fail
    refine (specPlain _ l b c t _ av cv (by rw [HN.out]) o2.arg HL6.out).mono ?_
    rintro e w3 ⟨⟨v3, rfl, p3⟩, b3⟩
    rw [HX.out] at p3
    have o3 := o2.below b3
    have ox3 := ox2.below b3
    have B3 := bstep B2 b3
    go_wp2_with fail
    refine (wcInts_yes _ _ X _ ox3.arg p3.arg HX4.out).mono ?_
    rintro e w4 ⟨rfl, b4⟩
    have o4 := o3.below b4
    have ox4 := ox3.below b4
    have B4 := bstep B3 b4
    clear o1 o2 o3 ox2 ox3 p3 B2 B3 b1 b2 b3 b4
    obtain ⟨ax, nx, cx, rfl, hnx⟩ := ox4.slc
    have HNX : Hid _ := hnx
    have hnxn : nx ≤ n := by have := HN.out; omega
    clear hnx hwl
    by_cases hz : nx = 0
    · subst hz
      go_wp2_with fail
      refine (specPlain _ l b c t _ av cv (by rw [HN.out]) o4.arg HL6.out).mono ?_
      rintro e w5 ⟨⟨v5, rfl, p5⟩, b5⟩
      rw [HX.out] at p5
      go_wp2_with fail
      refine (wcInts_yes _ _ X _ (ox4.below b5).arg p5.arg HX4.out).mono ?_
      rintro e w6 ⟨rfl, b6⟩
      go_wp2_with fail
      go_ret
      exact ⟨rfl, bstep (bstep B4 b5) b6⟩
    · have hok : clsOk (fn l) l.length = true ∧ sideB b = true ∧ sideB c = true ∧ lvB t = true := by
        have hx := HX.out
        by_cases h : clsOk (fn l) l.length = true ∧ sideB b = true ∧ sideB c = true ∧ lvB t = true
        · exact h
        · exfalso
          rw [plainR_no h] at hx
          have := HNX.out
          rw [← hx] at this
          simp at this
          omega
      have hXw : plainL l b c t = X := by rw [← HX.out, plainR_yes hok]
      have hnn : nx = n := by rw [← HNX.out, ← hXw, plainL_len, HN.out]
      subst hnn
      have HIS : Hid (∀ k, k < nx → fn X k = plainAt (fn l) nx b c t k) := fun k hk => by
        rw [← hXw, fn_plainL (by rw [HN.out]; exact hk), HN.out]
      have HAG : Hid (plainR X b c t = X) := by show _ = _; rw [← hXw]; exact plainR_again hok
      clear hok hXw hnxn
      have hnz : ((nx : Int) == 0) = false := by simp; omega
      rcases o4.forms with ⟨e, _⟩ | ⟨gl, cl, e, _, hgl, _, _, _⟩
      · simp only [Value.slice.injEq] at e; omega
      simp only [Value.slice.injEq] at e
      obtain ⟨rfl, -, rfl⟩ := e
      rcases ox4.forms with ⟨e, _⟩ | ⟨gx, cxx, e, _, hgx, _, _, _⟩
      · simp only [Value.slice.injEq] at e; omega
      simp only [Value.slice.injEq] at e
      obtain ⟨rfl, -, rfl⟩ := e
      have HO4 : Hid (OwnI w4 w.heap.size (.slice (some ⟨gl, 0, none⟩) nx cv) l) := o4
      have HOX4 : Hid (∃ B, OwnI w4 B (.slice (some ⟨gx, 0, none⟩) nx cx) X) := ⟨_, ox4⟩
      have HB4 : Hid _ := B4
      clear o4 ox4 B4
      go_wp2_with fail
      go_loopw [8] (fun i wr => ∃ (k m : Nat), k ≤ nx ∧ i = .int .i64 k ∧ wr = w4.drewN m) (fun i _ => nx - (intOf i).toNat)
      case atStart => exact ⟨0, 0, Nat.zero_le _, rfl, rfl⟩
      case round =>
        obtain ⟨k, m, hk, rfl, rfl⟩ := hrel
        by_cases hlt : k < nx
        · have cl1 : w4.cell? ⟨gl, k, none⟩ = some (.int .i64 (fn l k)) := HO4.out.cellN k hlt
          obtain ⟨BX, hBX⟩ := HOX4.out
          have cx1 : w4.cell? ⟨gx, k, none⟩ = some (.int .i64 (fn X k)) := hBX.cellN k hlt
          have his := HIS.out k hlt
          have hki : (k : Int) < (nx : Int) := by omega
          by_cases hno : noP (fn l k) = true
          · have h12 := plain_none (n := nx) (b := b) (a := c) (lv := t) hno
            rw [← his] at h12
            have HCASE : Hid ((k = 0 ∨ ∃ j, k = j + 1 ∧ ¬ k + 1 < nx) ∨ ∃ j P Q, k = j + 1 ∧ k + 1 < nx ∧ fn l j = P ∧ fn l (j + 2) = Q ∧ (P = Q → P = 1 ∨ P = 2 → fn X k = P)) := by
              show _ ∨ _
              by_cases h0 : k = 0
              · exact .inl (.inl h0)
              · by_cases h1 : k + 1 < nx
                · obtain ⟨j, rfl⟩ : ∃ j, k = j + 1 := ⟨k - 1, by omega⟩
                  exact .inr ⟨j, _, _, rfl, h1, rfl, rfl, fun e hP => by rw [his]; exact plain_mid hno (by omega) rfl e.symm hP⟩
                · exact .inl (.inr ⟨k - 1, by omega, h1⟩)
            obtain ⟨Z, hZ⟩ : ∃ Z, fn l k = Z := ⟨_, rfl⟩
            obtain ⟨Y, hY⟩ : ∃ Y, fn X k = Y := ⟨_, rfl⟩
            rw [hZ] at cl1 hno
            rw [hY] at cx1 h12
            rw [hY] at HCASE
            have hZr : (11 ≤ Z ∧ Z ≤ 13) ∨ (¬ (11 ≤ Z ∧ Z ≤ 13) ∧ 19 ≤ Z) := by
              unfold noP at hno; rw [decide_eq_true_eq] at hno; omega
            clear hZ hY hBX his hno
            obtain ⟨q, hq⟩ : ∃ q : Bool, decide (11 ≤ Z ∧ Z ≤ 13) = q := ⟨_, rfl⟩
            have HQ : Hid _ := hq
            have hZq : q = true ∨ (q = false ∧ 19 ≤ Z) := by
              rcases hZr with h | ⟨h1, h2⟩
              · left; rw [← hq]; simpa using h
              · right; exact ⟨by rw [← hq]; simpa using h1, h2⟩
            clear hq hZr
            rcases HCASE.out with (h0 | ⟨j, rfl, h1⟩) | ⟨j, P, Q, rfl, h1, hP, hQ, hPQ⟩
            · subst h0
              rcases h12 with rfl | rfl
              all_goals
                rcases hZq with rfl | ⟨rfl, h19⟩
                all_goals
                  clear HCASE
                  go_wp2_with (go_at_call 13; refine (wcIn_b _ _ _ _ _ HQ).mono ?_; rintro e w' ⟨rfl, rfl⟩)
                  go_quiet (fail)
                  go_wp2_with fail
                  go_quiet (fail)
                  go_wp2_with fail
                  refine ⟨⟨1, _, by omega, by go_num, rfl⟩, by simp only [intOf]; omega⟩
            · have hk0 : (0 : Int) < (j : Int) + 1 := by omega
              have hd0 : decide ((0 : Int) < (j : Int) + 1) = true := decide_eq_true (by omega)
              have hn1 : ¬ ((j : Int) + 1 + 1 < (nx : Int)) := by omega
              have hd1 : decide ((j : Int) + 1 + 1 < (nx : Int)) = false := decide_eq_false (by omega)
              rcases h12 with rfl | rfl
              all_goals
                rcases hZq with rfl | ⟨rfl, h19⟩
                all_goals
                  clear HCASE
                  go_wp2_with (go_at_call 13; refine (wcIn_b _ _ _ _ _ HQ).mono ?_; rintro e w' ⟨rfl, rfl⟩)
                  go_quiet (fail)
                  go_wp2_with fail
                  go_quiet (fail)
                  go_wp2_with fail
                  refine ⟨⟨j + 1 + 1, _, by omega, by go_num, by first | rfl | rw [World.drewN_drewN] | simp⟩, by simp only [intOf]; omega⟩
            · have hk0 : (0 : Int) < (j : Int) + 1 := by omega
              have hd0 : decide ((0 : Int) < (j : Int) + 1) = true := decide_eq_true (by omega)
              have hn1 : (j : Int) + 1 + 1 < (nx : Int) := by omega
              have hd1 : decide ((j : Int) + 1 + 1 < (nx : Int)) = true := decide_eq_true (by omega)
              have hj1 : (j : Int) < (nx : Int) := by omega
              have cP : w4.cell? ⟨gl, j, none⟩ = some (.int .i64 P) := by rw [← hP]; exact HO4.out.cellN j (by omega)
              have cQ : w4.cell? ⟨gl, j + 2, none⟩ = some (.int .i64 Q) := by rw [← hQ]; exact HO4.out.cellN (j + 2) (by omega)
              clear HCASE hP hQ
              by_cases ePQ : P = Q
              · subst ePQ
                have gPQ : (P == P) = true := by simp
                by_cases e1 : P = 1
                · have hy := hPQ rfl (.inl e1)
                  subst e1
                  subst hy
                  clear hPQ h12
                  rcases hZq with rfl | ⟨rfl, h19⟩
                  all_goals
                    go_wp2_with (go_at_call 13; refine (wcIn_b _ _ _ _ _ HQ).mono ?_; rintro e w' ⟨rfl, rfl⟩)
                    go_quiet (fail)
                    go_wp2_with fail
                    go_quiet (fail)
                    go_wp2_with fail
                    refine ⟨⟨j + 1 + 1, _, by omega, by go_num, by first | rfl | rw [World.drewN_drewN] | simp⟩, by simp only [intOf]; omega⟩
                · have g1 : (P == 1) = false := by simpa using e1
                  by_cases e2 : P = 2
                  · have hy := hPQ rfl (.inr e2)
                    subst e2
                    subst hy
                    clear hPQ h12 e1
                    rcases hZq with rfl | ⟨rfl, h19⟩
                    all_goals
                      go_wp2_with (go_at_call 13; refine (wcIn_b _ _ _ _ _ HQ).mono ?_; rintro e w' ⟨rfl, rfl⟩)
                      go_quiet (fail)
                      go_wp2_with fail
                      go_quiet (fail)
                      go_wp2_with fail
                      refine ⟨⟨j + 1 + 1, _, by omega, by go_num, by first | rfl | rw [World.drewN_drewN] | simp⟩, by simp only [intOf]; omega⟩
                  · have g2 : (P == 2) = false := by simpa using e2
                    clear hPQ e1 e2
                    rcases h12 with rfl | rfl
                    all_goals
                      rcases hZq with rfl | ⟨rfl, h19⟩
                      all_goals
                        go_wp2_with (go_at_call 13; refine (wcIn_b _ _ _ _ _ HQ).mono ?_; rintro e w' ⟨rfl, rfl⟩)
                        go_quiet (fail)
                        go_wp2_with fail
                        go_quiet (fail)
                        go_wp2_with fail
                        refine ⟨⟨j + 1 + 1, _, by omega, by go_num, by first | rfl | rw [World.drewN_drewN] | simp⟩, by simp only [intOf]; omega⟩
              · have gPQ : (P == Q) = false := by simpa using ePQ
                clear hPQ ePQ
                rcases h12 with rfl | rfl
                all_goals
                  rcases hZq with rfl | ⟨rfl, h19⟩
                  all_goals
                    go_wp2_with (go_at_call 13; refine (wcIn_b _ _ _ _ _ HQ).mono ?_; rintro e w' ⟨rfl, rfl⟩)
                    go_quiet (fail)
                    go_wp2_with fail
                    go_quiet (fail)
                    go_wp2_with fail
                    refine ⟨⟨j + 1 + 1, _, by omega, by go_num, by first | rfl | rw [World.drewN_drewN] | simp⟩, by simp only [intOf]; omega⟩
          · have hno' : noP (fn l k) = false := by simpa using hno
            have hxz : fn X k = fn l k := by rw [his, plain_other hno']
            rw [hxz] at cx1
            obtain ⟨Z, hZ⟩ : ∃ Z, fn l k = Z := ⟨_, rfl⟩
            rw [hZ] at cl1 cx1 hno'
            have hZr : ¬ (11 ≤ Z ∧ Z ≤ 13) ∧ ¬ 19 ≤ Z := by
              unfold noP at hno'; rw [decide_eq_false_iff_not] at hno'; omega
            have HQ : Hid (decide (11 ≤ Z ∧ Z ≤ 13) = false) := by show _ = _; simpa using hZr.1
            have h19 : Z < 19 := by omega
            have hd19 : decide (19 ≤ Z) = false := decide_eq_false (by omega)
            have gZ : (Z != Z) = false := by simp
            clear hZ hBX his hno hno' hxz hZr
            go_wp2_with (go_at_call 13; refine (wcIn_b _ _ _ _ _ HQ).mono ?_; rintro e w' ⟨rfl, rfl⟩)
            go_quiet (fail)
            go_wp2_with fail
            go_quiet (fail)
            go_wp2_with fail
            refine ⟨⟨k + 1, _, by omega, by go_num, by first | rfl | rw [World.drewN_drewN] | simp⟩, by simp only [intOf]; omega⟩
        · have e : k = nx := by omega
          subst e
          obtain ⟨BX, hBX⟩ := HOX4.out
          have HBX : Hid (OwnI (w4.drewN m) BX (.slice (some ⟨gx, 0, none⟩) k cx) X) := hBX.drewN m
          have HB5 : Hid (Below w.heap.size w (w4.drewN m)) := bstep HB4.out (below_draws w4 m)
          obtain ⟨w5, hw5⟩ : ∃ w5, w4.drewN m = w5 := ⟨_, rfl⟩
          rw [hw5] at HBX HB5
          rw [hw5]
          clear hBX hw5
          go_wp2_with fail
          refine (implPlain _ X b c t _ (some ⟨gx, 0, none⟩) cx (by rw [HNX.out]) (OwnI.arg (w := w5) (B := BX) (v := .slice (some ⟨gx, 0, none⟩) k cx) (l := X) HBX.out) (by have := HNX.out; omega)).mono ?_
          rintro e w6 ⟨⟨v6, rfl, p6⟩, b6⟩
          rw [HAG.out] at p6
          have hxa : Arg w6 (.slice (some ⟨gx, 0, none⟩) k cx) X := (OwnI.arg (w := w5) (B := BX) (v := .slice (some ⟨gx, 0, none⟩) k cx) (l := X) HBX.out).below b6
          go_wp2_with fail
          refine (wcInts_yes _ _ X _ p6.arg hxa HX4.out).mono ?_
          rintro e w7 ⟨rfl, b7⟩
          go_wp2_with fail
          go_ret
          exact ⟨rfl, bstep (bstep HB5.out b6) b7⟩
end Go.Proofs.Ytnaiaponkafcpaa
