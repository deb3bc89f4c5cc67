import Derived.Test.YtobmdefklgkoiaaSpanOk2
import Derived.Test.YtobmdefklgkoiaaGrow
namespace Go.Proofs.Ytobmdefklgkoiaa
open Go.ChangeShapes Go.WideShapes Go.ChangeAt Go.RowKit
set_option linter.unusedSimpArgs false

theorem specSpOk_is (c f t s m : Int) (w : World) (hc0 : 0 ≤ c) (hc1 : c ≤ 80) (q : Bool) (hq : Hid (spOk c f t s m = q)) :
    Calls Try.prog 38 #[.agg #[.int .i64 f, .int .i64 t, .int .i64 s, .int .i64 m], .int .i64 c] w fun e w' => e = .returned (.bool q) ∧ Below w.heap.size w w' := by
  rw [← hq.out]; exact specSpOk c f t s m w hc0 hc1

set_option maxHeartbeats 4000000 in
theorem specSpansOk_row (b cap n : Nat) (l : List Int) (c : Int) (w : World) (hb : b < w.heap.size) (hlc : n ≤ cap) (hbig : n ≤ 1048576) (hat : Hid (∀ j, j < n * 4 → w.cell? ⟨b, j, none⟩ = some (.int .i64 (fn l j)))) (h1 : 0 ≤ c) (h2 : c ≤ 80) :
    Calls Try.prog 14 #[.slice (some ⟨b, 0, none⟩) n cap, .int .i64 c] w fun e w' => e = .returned (.bool (spansOk (fn l) n c)) ∧ Below w.heap.size w w' := by
  go_enter Try.func14, Try.ntmps14
  go_wp2_with fail
  go_loopw [5] (fun i wr => ∃ (k : Nat), k ≤ n ∧ i = .int .i64 k ∧ Hid (∀ j, j < k → rowOk (fn l) c j = true) ∧ Below w.heap.size w wr) (fun i _ => n - (intOf i).toNat)
  case atStart => exact ⟨0, Nat.zero_le _, rfl, fun j hj => by omega, Below.refl _ _⟩
  case round =>
    obtain ⟨k, hk, rfl, hall, hbel⟩ := hrel
    have hsz := hbel.size
    by_cases hlt : k < n
    · have hki : (k : Int) < (n : Int) := by omega
      have hcell : ∀ j, j < n * 4 → wr.cell? ⟨b, j, none⟩ = some (.int .i64 (fn l j)) := fun j hj => (hbel.cell (p := ⟨b, j, none⟩) hb).trans (hat.out _ hj)
      have HC : Hid _ := hcell
      clear hcell
      have c0 := HC.out (k * 4) (by omega)
      have c1 := HC.out (k * 4 + 1) (by omega)
      have c2 := HC.out (k * 4 + 2) (by omega)
      have c3 := HC.out (k * 4 + 3) (by omega)
      by_cases hq : spOk c (fn l (k * 4)) (fn l (k * 4 + 1)) (fn l (k * 4 + 2)) (fn l (k * 4 + 3)) = true
      · by_cases hk0 : k = 0
        · have HR : Hid _ := rowOk_mk hq (by subst hk0; have := (spOk_iff.1 hq).1; rw [enS_zero]; exact this)
          have HQ : Hid _ := hq
          have HK : Hid _ := hk0
          have g1 : decide (0 < k) = false := by simp; omega
          have g2 : decide ((0 : Int) < (k : Int)) = false := by simp; omega
          clear hq hk0
          go_wp2_with fail
          have e0 := Gr.cell c0 (by omega)
          have e1 := Gr.cell c1 (by omega)
          have e2 := Gr.cell c2 (by omega)
          have e3 := Gr.cell c3 (by omega)
          refine wp_region_grow (by kernel_rfl) (by kernel_rfl) ?_
          intro hneGr
          repeat (go_big_quiet_step ((go_at_call 38; exact Calls.grow_of (specSpOk_is _ _ _ _ _ _ h1 h2 _ HQ))))
          refine wpQuiet_nil ?_
          intro w5 hu5
          have b5 := gr_out hu5
          clear hu5
          go_wp2_with fail
          all_goals (refine ⟨⟨k + 1, by omega, by go_num, fun j hj => ?_, bstep hbel b5⟩, by simp only [intOf]; omega⟩)
          all_goals (have ej : j = k := by have := HK.out; omega
                     subst ej; exact HR.out)
        · obtain ⟨p, rfl⟩ : ∃ p, k = p + 1 := ⟨k - 1, by omega⟩
          have cp := HC.out (p * 4 + 1) (by omega)
          have ep := Gr.cell cp (by omega)
          have e0 := Gr.cell c0 (by omega)
          have e1 := Gr.cell c1 (by omega)
          have e2 := Gr.cell c2 (by omega)
          have e3 := Gr.cell c3 (by omega)
          have g1 : decide (0 < p + 1) = true := by simp
          have g2 : (0 : Int) < ((p + 1 : Nat) : Int) := by omega
          have g3 : (p : Int) < (n : Int) := by omega
          have HQ : Hid _ := hq
          clear hq
          by_cases hz : fn l ((p + 1) * 4) < fn l (p * 4 + 1)
          · have HR : Hid (rowOk (fn l) c (p + 1) = false) := rowOk_no2 (by rw [enS_succ]; exact hz)
            have hz2 : decide (fn l ((p + 1) * 4) < fn l (p * 4 + 1)) = true := by simpa using hz
            go_wp2_with fail
            refine wp_region_grow (by kernel_rfl) (by kernel_rfl) ?_
            intro hneGr
            repeat (go_big_quiet_step ((go_at_call 38; exact Calls.grow_of (specSpOk_is _ _ _ _ _ _ h1 h2 _ HQ))))
            refine wpQuiet_nil ?_
            intro w5 hu5
            have b5 := gr_out hu5
            clear hu5
            go_wp2_with fail
            go_ret
            exact ⟨retBool (spansOk_row hlt HR.out).symm, bstep hbel b5⟩
          · have HR : Hid (rowOk (fn l) c (p + 1) = true) := rowOk_mk HQ.out (by rw [enS_succ]; omega)
            have hz2 : decide (fn l ((p + 1) * 4) < fn l (p * 4 + 1)) = false := by simpa using hz
            go_wp2_with fail
            refine wp_region_grow (by kernel_rfl) (by kernel_rfl) ?_
            intro hneGr
            repeat (go_big_quiet_step ((go_at_call 38; exact Calls.grow_of (specSpOk_is _ _ _ _ _ _ h1 h2 _ HQ))))
            refine wpQuiet_nil ?_
            intro w5 hu5
            have b5 := gr_out hu5
            clear hu5
            go_wp2_with fail
            refine ⟨⟨p + 1 + 1, by omega, by go_num, fun j hj => ?_, bstep hbel b5⟩, by simp only [intOf]; omega⟩
            by_cases ej : j = p + 1
            · subst ej; exact HR.out
            · exact hall.out j (by omega)
      · have hq' : spOk c (fn l (k * 4)) (fn l (k * 4 + 1)) (fn l (k * 4 + 2)) (fn l (k * 4 + 3)) = false := by simpa using hq
        have HR : Hid _ := rowOk_no1 hq'
        have HQ : Hid _ := hq'
        have e0 := Gr.cell c0 (by omega)
        have e1 := Gr.cell c1 (by omega)
        have e2 := Gr.cell c2 (by omega)
        have e3 := Gr.cell c3 (by omega)
        clear hq hq'
        go_wp2_with fail
        refine wp_region_grow (by kernel_rfl) (by kernel_rfl) ?_
        intro hneGr
        repeat (go_big_quiet_step ((go_at_call 38; exact Calls.grow_of (specSpOk_is _ _ _ _ _ _ h1 h2 _ HQ))))
        refine wpQuiet_nil ?_
        intro w5 hu5
        have b5 := gr_out hu5
        clear hu5
        go_wp2_with fail
        go_ret
        exact ⟨retBool (spansOk_row hlt HR.out).symm, bstep hbel b5⟩
    · have e : k = n := by omega
      subst e
      by_cases h3 : k ≤ 12
      · have h3' : (k : Int) ≤ 12 := by omega
        have hi : inB c 0 80 = true := by simp [inB, h1, h2]
        have HI : Hid _ := hi
        clear hi
        go_wp2_with (go_at_call 39; refine (specIn _ _ _ _).mono ?_; rintro e w' ⟨rfl, rfl⟩; rw [HI.out])
        go_ret
        exact ⟨retBool (spansOk_yes h1 h2 h3 hall.out).symm, hbel⟩
      · have h3' : (12 : Int) < (k : Int) := by omega
        go_wp2_with fail
        go_ret
        exact ⟨retBool (spansOk_bad (by omega)).symm, hbel⟩

set_option maxHeartbeats 2000000 in
theorem specSpOk_ex (c f t s m : Int) : ∃ q : Bool, ∀ w : World,
    Calls Try.prog 38 #[.agg #[.int .i64 f, .int .i64 t, .int .i64 s, .int .i64 m], .int .i64 c] w fun e w' => e = .returned (.bool q) ∧ Below w.heap.size w w' := by
  refine ⟨inB f 0 (wrap64 (c - 1)) && (inB t (wrap64 (f + 1)) c && (inB s 1 40 && inB m 0 9)), fun w => ?_⟩
  go_enter Try.func38, Try.ntmps38
  go_wp2_with (go_at_call 39; refine (specIn _ _ _ _).mono ?_; rintro e w' ⟨rfl, rfl⟩)
  all_goals (go_ret; refine ⟨retBool ?_, by go_grown⟩)
  all_goals (simp_all)

set_option maxHeartbeats 4000000 in
/-- A count that there can't be: whatever is said of the spans, it is no. -/
theorem specSpansOk_no (b cap n : Nat) (l : List Int) (c : Int) (w : World) (hb : b < w.heap.size) (hlc : n ≤ cap) (hbig : n ≤ 1048576) (hat : Hid (∀ j, j < n * 4 → w.cell? ⟨b, j, none⟩ = some (.int .i64 (fn l j)))) (hc : inB c 0 80 = false) :
    Calls Try.prog 14 #[.slice (some ⟨b, 0, none⟩) n cap, .int .i64 c] w fun e w' => e = .returned (.bool false) ∧ Below w.heap.size w w' := by
  have HI : Hid _ := hc
  clear hc
  go_enter Try.func14, Try.ntmps14
  go_wp2_with fail
  go_loopw [5] (fun i wr => ∃ (k : Nat), k ≤ n ∧ i = .int .i64 k ∧ Below w.heap.size w wr) (fun i _ => n - (intOf i).toNat)
  case atStart => exact ⟨0, Nat.zero_le _, rfl, Below.refl _ _⟩
  case round =>
    obtain ⟨k, hk, rfl, hbel⟩ := hrel
    have hsz := hbel.size
    by_cases hlt : k < n
    · have hki : (k : Int) < (n : Int) := by omega
      have hcell : ∀ j, j < n * 4 → wr.cell? ⟨b, j, none⟩ = some (.int .i64 (fn l j)) := fun j hj => (hbel.cell (p := ⟨b, j, none⟩) hb).trans (hat.out _ hj)
      have HC : Hid _ := hcell
      clear hcell
      have c0 := HC.out (k * 4) (by omega)
      have c1 := HC.out (k * 4 + 1) (by omega)
      have c2 := HC.out (k * 4 + 2) (by omega)
      have c3 := HC.out (k * 4 + 3) (by omega)
      have e0 := Gr.cell c0 (by omega)
      have e1 := Gr.cell c1 (by omega)
      have e2 := Gr.cell c2 (by omega)
      have e3 := Gr.cell c3 (by omega)
      obtain ⟨q, hq⟩ := specSpOk_ex c (fn l (k * 4)) (fn l (k * 4 + 1)) (fn l (k * 4 + 2)) (fn l (k * 4 + 3))
      have HQ : Hid _ := hq
      clear hq
      cases q with
      | true =>
        by_cases hk0 : k = 0
        · have g1 : decide (0 < k) = false := by simp; omega
          have g2 : decide ((0 : Int) < (k : Int)) = false := by simp; omega
          clear hk0
          go_wp2_with fail
          refine wp_region_grow (by kernel_rfl) (by kernel_rfl) ?_
          intro hneGr
          repeat (go_big_quiet_step ((go_at_call 38; exact Calls.grow_of (HQ.out _))))
          refine wpQuiet_nil ?_
          intro w5 hu5
          have b5 := gr_out hu5
          clear hu5
          go_wp2_with fail
          exact ⟨⟨k + 1, by omega, by go_num, bstep hbel b5⟩, by simp only [intOf]; omega⟩
        · obtain ⟨p, rfl⟩ : ∃ p, k = p + 1 := ⟨k - 1, by omega⟩
          have cp := HC.out (p * 4 + 1) (by omega)
          have ep := Gr.cell cp (by omega)
          have g1 : decide (0 < p + 1) = true := by simp
          have g2 : (0 : Int) < ((p + 1 : Nat) : Int) := by omega
          have g3 : (p : Int) < (n : Int) := by omega
          by_cases hz : fn l ((p + 1) * 4) < fn l (p * 4 + 1)
          · have hz2 : decide (fn l ((p + 1) * 4) < fn l (p * 4 + 1)) = true := by simpa using hz
            go_wp2_with fail
            refine wp_region_grow (by kernel_rfl) (by kernel_rfl) ?_
            intro hneGr
            repeat (go_big_quiet_step ((go_at_call 38; exact Calls.grow_of (HQ.out _))))
            refine wpQuiet_nil ?_
            intro w5 hu5
            have b5 := gr_out hu5
            clear hu5
            go_wp2_with fail
            go_ret
            exact ⟨rfl, bstep hbel b5⟩
          · have hz2 : decide (fn l ((p + 1) * 4) < fn l (p * 4 + 1)) = false := by simpa using hz
            go_wp2_with fail
            refine wp_region_grow (by kernel_rfl) (by kernel_rfl) ?_
            intro hneGr
            repeat (go_big_quiet_step ((go_at_call 38; exact Calls.grow_of (HQ.out _))))
            refine wpQuiet_nil ?_
            intro w5 hu5
            have b5 := gr_out hu5
            clear hu5
            go_wp2_with fail
            exact ⟨⟨p + 1 + 1, by omega, by go_num, bstep hbel b5⟩, by simp only [intOf]; omega⟩
      | false =>
        go_wp2_with fail
        refine wp_region_grow (by kernel_rfl) (by kernel_rfl) ?_
        intro hneGr
        repeat (go_big_quiet_step ((go_at_call 38; exact Calls.grow_of (HQ.out _))))
        refine wpQuiet_nil ?_
        intro w5 hu5
        have b5 := gr_out hu5
        clear hu5
        go_wp2_with fail
        go_ret
        exact ⟨rfl, bstep hbel b5⟩
    · have e : k = n := by omega
      subst e
      by_cases h3 : k ≤ 12
      · have h3' : (k : Int) ≤ 12 := by omega
        go_wp2_with (go_at_call 39; refine (specIn _ _ _ _).mono ?_; rintro e w' ⟨rfl, rfl⟩; rw [HI.out])
        go_ret
        exact ⟨rfl, hbel⟩
      · have h3' : (12 : Int) < (k : Int) := by omega
        go_wp2_with fail
        go_ret
        exact ⟨rfl, hbel⟩
end Go.Proofs.Ytobmdefklgkoiaa
