import Derived.Test.YtobmdefklgkoiaaSpanOk4
namespace Go.Proofs.Ytobmdefklgkoiaa
open Go.ChangeShapes Go.WideShapes Go.ChangeAt Go.RowKit
set_option linter.unusedSimpArgs false

theorem specIn_is (n lo hi : Int) (w : World) (q : Bool) (hq : Hid (inB n lo hi = q)) : Calls Try.prog 39 #[.int .i64 n, .int .i64 lo, .int .i64 hi] w fun e w' => e = .returned (.bool q) ∧ w' = w := by
  rw [← hq.out]; exact specIn n lo hi w

theorem retPair {r : Int × Int} {a b : Int} (h : r = (a, b)) : Ending.returned (.tuple #[.int .i64 a, .int .i64 b]) = .returned (.tuple #[.int .i64 r.1, .int .i64 r.2]) := by rw [h]

/-- How a letter looks, of spans whose ends are no great numbers. -/
def endsOk (z : Nat → Int) (n : Nat) : Prop := ∀ j, j < n → -1000000000 ≤ z (j * 4 + 1) ∧ z (j * 4 + 1) ≤ 1000000000
theorem endsOk_of {z : Nat → Int} {n : Nat} {c : Int} (h : spansOk z n c = true) : endsOk z n := fun j hj => by
  have h1 := (spansOk_out h).1
  have := (rowOk_parts ((spansOk_out h).2 j hj)).1
  omega

set_option maxHeartbeats 4000000 in
theorem specLookAt (v : Value) (n : Nat) (l : List Int) (t : Int) (w : World) (hv : ArgS w v n l) (hbig : n ≤ 1048576) (hen : Hid (endsOk (fn l) n)) (r : Int × Int) (hr : Hid (lookAt (fn l) n t = r)) :
    Calls Try.prog 51 #[v, .int .i64 t] w fun e w' => e = .returned (.tuple #[.int .i64 r.1, .int .i64 r.2]) ∧ Below w.heap.size w w' := by
  rcases hv with ⟨a, cap, rfl, rfl⟩ | ⟨b, cap, rfl, hb, hlc, _, hat⟩
  · have e : r = (10, 0) := hr.out.symm
    subst e
    go_enter Try.func51, Try.ntmps51
    go_wp2_with fail
    go_rounds 1
    go_ret2
    exact ⟨rfl, Below.refl _ _⟩
  · have HC : Hid _ := hat
    clear hat
    go_enter Try.func51, Try.ntmps51
    go_wp2_with fail
    go_loopw [6] (fun i wr => ∃ (k : Nat), k ≤ n ∧ i = .int .i64 k ∧ Hid (spAt (fn l) t n (n - k) = r) ∧ Below w.heap.size w wr) (fun i _ => n - (intOf i).toNat)
    case atStart => exact ⟨0, Nat.zero_le _, rfl, hr, Below.refl _ _⟩
    case round =>
      obtain ⟨k, hk, rfl, hS, hbel⟩ := hrel
      have hsz := hbel.size
      by_cases hlt : k < n
      · have hki : (k : Int) < (n : Int) := by omega
        have hcell : ∀ j, j < n * 4 → wr.cell? ⟨b, j, none⟩ = some (.int .i64 (fn l j)) := fun j hj => (hbel.cell (p := ⟨b, j, none⟩) hb).trans (HC.out _ hj)
        have e0 := Gr.cell (hcell (k * 4) (by omega)) (by omega)
        have e1 := Gr.cell (hcell (k * 4 + 1) (by omega)) (by omega)
        have e2 := fun (w5 : World) (b5 : Below wr.heap.size wr w5) => Gr.cell (hcell (k * 4 + 2) (by omega)) (by omega) ⟨w5, b5⟩
        have e3 := fun (w5 : World) (b5 : Below wr.heap.size wr w5) => Gr.cell (hcell (k * 4 + 3) (by omega)) (by omega) ⟨w5, b5⟩
        have E2 : Hid _ := e2
        have E3 : Hid _ := e3
        clear hcell e2 e3
        obtain ⟨b1, b2⟩ := hen.out k hlt
        by_cases hq : fn l (k * 4) ≤ t ∧ t ≤ fn l (k * 4 + 1) - 1
        · have HI : Hid (inB t (fn l (k * 4)) (fn l (k * 4 + 1) - 1) = true) := by show _ = _; simp only [inB, decide_eq_true_eq]; exact hq
          have HR : Hid (r = (fn l (k * 4 + 2), fn l (k * 4 + 3))) := by show _ = _; rw [← hS.out]; exact spAt_hit hlt (by omega)
          clear hq
          go_wp2_with fail
          refine wp_region_grow (by kernel_rfl) (by kernel_rfl) ?_
          intro hneGr
          repeat (go_big_quiet_step ((go_at_call 39; exact Calls.grow_of_same (specIn_is _ _ _ _ _ HI))))
          refine wpQuiet_nil ?_
          intro w5 hu5
          have b5 := gr_out hu5
          clear hu5
          have f2 := E2.out w5 b5
          have f3 := E3.out w5 b5
          go_wp2_with fail
          go_quiet (fail)
          go_wp2_with fail
          go_ret2
          exact ⟨retPair HR.out, bstep (bstep hbel b5) (below_draws _ _)⟩
        · have HI : Hid (inB t (fn l (k * 4)) (fn l (k * 4 + 1) - 1) = false) := by show _ = _; simp only [inB, decide_eq_false_iff_not]; exact hq
          have HR : Hid (spAt (fn l) t n (n - (k + 1)) = r) := by show _ = _; rw [← hS.out]; exact (spAt_miss hlt (by omega)).symm
          clear hq
          go_wp2_with fail
          refine wp_region_grow (by kernel_rfl) (by kernel_rfl) ?_
          intro hneGr
          repeat (go_big_quiet_step ((go_at_call 39; exact Calls.grow_of_same (specIn_is _ _ _ _ _ HI))))
          refine wpQuiet_nil ?_
          intro w5 hu5
          have b5 := gr_out hu5
          clear hu5
          go_wp2_with fail
          exact ⟨⟨k + 1, by omega, by go_num, HR, bstep hbel b5⟩, by simp only [intOf]; omega⟩
      · have e : k = n := by omega
        subst e
        have e : r = (10, 0) := by rw [← hS.out, Nat.sub_self]; rfl
        have HR : Hid _ := e
        clear e
        go_wp2_with fail
        go_ret2
        exact ⟨retPair HR.out, hbel⟩

set_option maxHeartbeats 4000000 in
theorem implSpanAt (v : Value) (n : Nat) (l : List Int) (t : Int) (w : World) (hv : ArgS w v n l) (r : Int × Int) (hr : Hid (spanAt (fn l) n t = r)) :
    Calls Try.prog 15 #[v, .int .i64 t] w fun e w' => e = .returned (.tuple #[.int .i64 r.1, .int .i64 r.2]) ∧ Below w.heap.size w w' := by
  by_cases hok : spansOk (fn l) n 80 = true
  · have HL : Hid (lookAt (fn l) n t = r) := by show _ = _; rw [← hr.out, spanAt, if_pos hok]
    have hn12 := (spansOk_out hok).1.2.2
    have HO : Hid _ := hok
    clear hok
    rcases hv with ⟨a, cap, rfl, rfl⟩ | ⟨b, cap, rfl, hb, hlc, hcm, hat⟩
    · have e : r = (10, 0) := HL.out.symm
      subst e
      go_enter Try.func15, Try.ntmps15
      go_wp2_with fail
      refine (implSpansOk _ 0 l 80 w (.inl ⟨a, cap, rfl, rfl⟩)).mono ?_
      rintro e w1 ⟨rfl, b1⟩
      rw [HO.out]
      go_wp2_with fail
      go_rounds 1
      go_ret2
      exact ⟨rfl, b1⟩
    · go_enter Try.func15, Try.ntmps15
      go_wp2_with fail
      refine (implSpansOk _ n l 80 w (.inr ⟨b, cap, rfl, hb, hlc, hcm, hat⟩)).mono ?_
      rintro e w1 ⟨rfl, b1⟩
      rw [HO.out]
      go_wp2_with fail
      have HC : Hid _ := hat
      clear hat
      go_loopw [13] (fun i wr => ∃ (k : Nat), k ≤ n ∧ i = .int .i64 k ∧ Hid (spAt (fn l) t n (n - k) = r) ∧ Below w.heap.size w wr) (fun i _ => n - (intOf i).toNat)
      case atStart => exact ⟨0, Nat.zero_le _, rfl, HL, b1⟩
      case round =>
        obtain ⟨k, hk, rfl, hS, hbel⟩ := hrel
        have hsz := hbel.size
        by_cases hlt : k < n
        · have c0 := (hbel.cell (p := ⟨b, k * 4, none⟩) hb).trans (HC.out _ (by omega))
          have c1 := (hbel.cell (p := ⟨b, k * 4 + 1, none⟩) hb).trans (HC.out _ (by omega))
          have c2 := (hbel.cell (p := ⟨b, k * 4 + 2, none⟩) hb).trans (HC.out _ (by omega))
          have c3 := (hbel.cell (p := ⟨b, k * 4 + 3, none⟩) hb).trans (HC.out _ (by omega))
          by_cases q1 : fn l (k * 4) ≤ t
          · by_cases q2 : t < fn l (k * 4 + 1)
            · have HR : Hid (r = (fn l (k * 4 + 2), fn l (k * 4 + 3))) := by show _ = _; rw [← hS.out]; exact spAt_hit hlt ⟨q1, q2⟩
              go_wp2_with fail
              go_quiet (fail)
              go_wp2_with fail
              go_ret2
              exact ⟨retPair HR.out, bstep (hbel.alloc hsz _) (below_draws _ _)⟩
            · have HR : Hid (spAt (fn l) t n (n - (k + 1)) = r) := by show _ = _; rw [← hS.out]; exact (spAt_miss hlt (by omega)).symm
              go_wp2_with fail
              exact ⟨⟨k + 1, by omega, by go_num, HR, hbel.alloc hsz _⟩, by simp only [intOf]; omega⟩
          · have HR : Hid (spAt (fn l) t n (n - (k + 1)) = r) := by show _ = _; rw [← hS.out]; exact (spAt_miss hlt (by omega)).symm
            go_wp2_with fail
            exact ⟨⟨k + 1, by omega, by go_num, HR, hbel.alloc hsz _⟩, by simp only [intOf]; omega⟩
        · have e : k = n := by omega
          subst e
          have e : r = (10, 0) := by rw [← hS.out, Nat.sub_self]; rfl
          have HR : Hid _ := e
          clear e
          go_wp2_with fail
          go_ret2
          exact ⟨retPair HR.out, hbel⟩
  · have hok' : spansOk (fn l) n 80 = false := by simpa using hok
    have HO : Hid _ := hok'
    have HL : Hid (r = (0, 0)) := by show _ = _; rw [← hr.out, spanAt, if_neg hok]
    clear hok hok'
    go_enter Try.func15, Try.ntmps15
    go_wp2_with fail
    refine (implSpansOk v n l 80 w hv).mono ?_
    rintro e w1 ⟨rfl, b1⟩
    rw [HO.out]
    go_wp2_with fail
    go_ret2
    exact ⟨retPair HL.out, b1⟩
end Go.Proofs.Ytobmdefklgkoiaa
