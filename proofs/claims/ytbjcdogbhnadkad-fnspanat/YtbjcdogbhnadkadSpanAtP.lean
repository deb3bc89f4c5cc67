import Derived.Test.YtbjcdogbhnadkadDrawSp2
import Derived.Test.YtbjcdogbhnadkadDraw4
import Derived.Test.YtbjcdogbhnadkadBytesRow
import Derived.Test.YtbjcdogbhnadkadSpanAt
namespace Go.Proofs.Ytbjcdogbhnadkad
open Go.ChangeShapes Go.WideShapes Go.ChangeAt Go.RowKit
set_option linter.unusedSimpArgs false

theorem went_belowS {w w' : World} {R p : Nat} (h : Went w w' R p) {W : World} (hB : Below W.heap.size W w) (hR : W.heap.size ≤ R) (hl : R < w.heap.size) : Below W.heap.size W w' :=
  hB.trans (h.below hR hl)
set_option maxHeartbeats 1000000 in
theorem wcIn_is (n lo hi : Int) (w : World) (q : Bool) (hq : Hid (inB n lo hi = q)) : Calls Try.prog 21 #[.int .i64 n, .int .i64 lo, .int .i64 hi] w fun e w' => e = .returned (.bool q) ∧ w' = w := by
  rw [← hq.out]
  go_enter Try.func21, Try.ntmps21
  go_wp2
  all_goals (go_ret; refine ⟨retBool ?_, rfl⟩)
  all_goals (simp [inB])
  all_goals omega

set_option maxHeartbeats 1000000 in
theorem drawSpanAt (a : Option Addr) (len cap : Nat) (w : World) (h : Bytes w a len cap) :
    Calls Try.prog 16 #[.slice a len cap] w fun e w' => (∃ v, ∃ t : Int, e = .returned (.tuple #[v, .int .i64 t]) ∧ SpRes w' w.heap.size v) ∧ Below w.heap.size w w' := by
  go_enter Try.func16, Try.ntmps16
  go_wp2_with fail
  refine (open_any a len cap w h).mono ?_
  rintro e w1 ⟨rfl, hr1, b1⟩
  have hl1 := hr1.lt
  go_wp2_with fail
  refine (anySpans w.heap.size 0 20 w1 hr1 (by omega) (by omega)).mono ?_
  rintro e w2 ⟨⟨v, rfl, n, s, o2, hn⟩, p2, hp2, hW2⟩
  have B2 := went_belowS hW2 b1 (Nat.le_refl _) hl1
  have s2 := hW2.gr.size
  go_wp2_with fail
  refine (pick_went w.heap.size p2 _ _ hW2.rd (by omega) (by omega) (by omega)).mono ?_
  rintro e w3 ⟨⟨k, rfl, hk⟩, hW3, hz3⟩
  have o3 := o2.went hW3 hl1
  have B3 := went_belowS hW3 B2 (Nat.le_refl _) (by omega)
  clear hW2 hW3 hz3
  go_wp2_with fail
  refine bodyPost_ret (v := .tuple #[v, .int .i64 ((k : Int) - 1)]) (by simp [results, Try.results16, go_sem]) rfl ⟨⟨_, _, rfl, n, s, o3.mono (by omega), hn⟩, B3⟩

set_option maxRecDepth 10000 in
set_option maxHeartbeats 2000000 in
theorem spanAtLaw (a : Option Addr) (len cap : Nat) (w : World) (h : Bytes w a len cap) :
    Calls Try.prog 6 #[.slice a len cap] w fun e w' => e = .returned (.bool true) ∧ Below w.heap.size w w' := by
  by_cases hbig : 1048576 < len
  · have hbi : (1048576 : Int) < (len : Int) := by omega
    go_enter Try.func6, Try.ntmps6
    go_wp2_with fail
    go_ret
    exact ⟨rfl, Below.refl _ _⟩
  · have hbi : (len : Int) ≤ 1048576 := by omega
    go_enter Try.func6, Try.ntmps6
    go_wp2_with fail
    refine (drawSpanAt a len cap w h).mono ?_
    rintro e w1 ⟨⟨v, t, rfl, n, s, o1, hn⟩, b1⟩
    have HV : Hid (∀ w', Below w1.heap.size w1 w' → ArgS w' v n s) := fun w' b => (o1.below b).arg
    have hv0 := o1.arg
    have hsh : ∃ x z, v = .slice x n z := by
      rcases hv0 with ⟨x, z, rfl, rfl⟩ | ⟨b, z, rfl, _⟩
      · exact ⟨_, _, rfl⟩
      · exact ⟨_, _, rfl⟩
    obtain ⟨xv, zv, rfl⟩ := hsh
    clear o1 hv0
    obtain ⟨r, hr⟩ : ∃ r, spanAt (fn s) n t = r := ⟨_, rfl⟩
    have HR : Hid _ := hr
    clear hr
    go_wp2_with fail
    refine (implSpanAt _ n s t _ (HV.out _ (Below.refl _ _)) r HR).mono ?_
    rintro e w2 ⟨rfl, b2⟩
    go_wp2_with fail
    refine (specSpanAt _ n s t _ (HV.out _ b2) (by omega) r HR).mono ?_
    rintro e w3 ⟨rfl, b3⟩
    have b13 := bstep b2 b3
    have n1 : (r.1 != r.1) = false := by simp
    have n2 : (r.2 != r.2) = false := by simp
    have n3 : (r.1 == r.1) = true := by simp
    have n4 : (r.2 == r.2) = true := by simp
    go_wp2_with fail
    refine (specSpansOk _ n s 80 _ (HV.out _ b13) (by omega)).mono ?_
    rintro e w4 ⟨rfl, b4⟩
    have b14 := bstep b13 b4
    have B4 := bstep b1 b14
    by_cases hok : spansOk (fn s) n 80 = true
    · rw [hok]
      have HL : Hid (lookAt (fn s) n t = r) := by show _ = _; rw [← HR.out, spanAt, if_pos hok]
      have HEN : Hid _ := endsOk_of hok
      have HOK : Hid _ := hok
      clear hok
      go_wp2_with fail
      go_loopw [9] (fun i wr => ∃ (k : Nat), k ≤ n ∧ i = .int .i64 k ∧ Hid (spAt (fn s) t n (n - k) = r) ∧ Below w4.heap.size w4 wr) (fun i _ => n - (intOf i).toNat)
      case atStart => exact ⟨0, Nat.zero_le _, rfl, HL, Below.refl _ _⟩
      case round =>
        obtain ⟨k, hk, rfl, hS, hbel⟩ := hrel
        by_cases hlt : k < n
        · obtain ⟨b, hxv, hb, hat⟩ : ∃ b, xv = some ⟨b, 0, none⟩ ∧ b < w1.heap.size ∧ ∀ j, j < n * 4 → w1.cell? ⟨b, j, none⟩ = some (.int .i64 (fn s j)) := by
            rcases HV.out _ (Below.refl _ _) with ⟨x, z, e, e0⟩ | ⟨b, z, e, hb, _, _, hat⟩
            · omega
            · simp only [Value.slice.injEq] at e; exact ⟨b, e.1, hb, hat⟩
          subst hxv
          have BW := bstep b14 hbel
          have hsz := BW.size
          have hcell : ∀ j, j < n * 4 → wr.cell? ⟨b, j, none⟩ = some (.int .i64 (fn s j)) := fun j hj => (BW.cell (p := ⟨b, j, none⟩) hb).trans (hat j hj)
          have e0 := Gr.cell (hcell (k * 4) (by omega)) (by omega)
          have e1 := Gr.cell (hcell (k * 4 + 1) (by omega)) (by omega)
          have e2 := fun (w5 : World) (b5 : Below wr.heap.size wr w5) => Gr.cell (hcell (k * 4 + 2) (by omega)) (by omega) ⟨w5, b5⟩
          have e3 := fun (w5 : World) (b5 : Below wr.heap.size wr w5) => Gr.cell (hcell (k * 4 + 3) (by omega)) (by omega) ⟨w5, b5⟩
          have E2 : Hid _ := e2
          have E3 : Hid _ := e3
          have hki : (k : Int) < (n : Int) := by omega
          clear hcell e2 e3 hat
          obtain ⟨c1, c2⟩ := HEN.out k hlt
          by_cases hq : fn s (k * 4) ≤ t ∧ t ≤ fn s (k * 4 + 1) - 1
          · have HI : Hid (inB t (fn s (k * 4)) (fn s (k * 4 + 1) - 1) = true) := by show _ = _; simp only [inB, decide_eq_true_eq]; exact hq
            have hre : r = (fn s (k * 4 + 2), fn s (k * 4 + 3)) := by rw [← hS.out]; exact spAt_hit hlt (by omega)
            have h1 : (r.1 == fn s (k * 4 + 2)) = true := by simp [hre]
            have h2 : (r.2 == fn s (k * 4 + 3)) = true := by simp [hre]
            clear hq hre
            go_wp2_with fail
            refine wp_region_grow (by kernel_rfl) (by kernel_rfl) ?_
            intro hneGr
            repeat (go_big_quiet_step ((go_at_call 21; exact Calls.grow_of_same (wcIn_is _ _ _ _ _ HI))))
            refine wpQuiet_nil ?_
            intro w5 hu5
            have b5 := gr_out hu5
            clear hu5
            have f2 := E2.out w5 b5
            have f3 := E3.out w5 b5
            go_wp2_with fail
            go_ret
            exact ⟨rfl, bstep (bstep B4 hbel) b5⟩
          · have HI : Hid (inB t (fn s (k * 4)) (fn s (k * 4 + 1) - 1) = false) := by show _ = _; simp only [inB, decide_eq_false_iff_not]; exact hq
            have HS2 : Hid (spAt (fn s) t n (n - (k + 1)) = r) := by show _ = _; rw [← hS.out]; exact (spAt_miss hlt (by omega)).symm
            clear hq
            go_wp2_with fail
            refine wp_region_grow (by kernel_rfl) (by kernel_rfl) ?_
            intro hneGr
            repeat (go_big_quiet_step ((go_at_call 21; exact Calls.grow_of_same (wcIn_is _ _ _ _ _ HI))))
            refine wpQuiet_nil ?_
            intro w5 hu5
            have b5 := gr_out hu5
            clear hu5
            go_wp2_with fail
            exact ⟨⟨k + 1, by omega, by go_num, HS2, bstep hbel b5⟩, by simp only [intOf]; omega⟩
        · have e : k = n := by omega
          subst e
          have hre : r = (10, 0) := by rw [← hS.out, Nat.sub_self]; rfl
          have h1 : (r.1 == 10) = true := by simp [hre]
          have h2 : (r.2 == 0) = true := by simp [hre]
          clear hre
          go_wp2_with fail
          go_ret
          exact ⟨rfl, bstep B4 hbel⟩
    · have hok2 : spansOk (fn s) n 80 = false := by simpa using hok
      rw [hok2]
      have HO : Hid _ := hok2
      clear hok hok2
      go_wp2_with fail
      refine (implSpansOk _ n s 80 _ (HV.out _ b14)).mono ?_
      rintro e w5 ⟨rfl, b5⟩
      rw [HO.out]
      go_wp2_with fail
      refine (specSpansOk _ n s 80 _ (HV.out _ (bstep b14 b5)) (by omega)).mono ?_
      rintro e w6 ⟨rfl, b6⟩
      rw [HO.out]
      go_wp2_with fail
      go_ret
      exact ⟨rfl, bstep (bstep B4 b5) b6⟩
end Go.Proofs.Ytbjcdogbhnadkad
