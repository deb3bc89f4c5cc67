import Derived.Test.YtgjhhfmhaalcnaaLineFn
namespace Go.Proofs.Ytgjhhfmhaalcnaa
open Go.ChangeShapes Go.WideShapes Go.ChangeAt Go.RowKit
set_option linter.unusedSimpArgs false

theorem hitAns_none {z : Nat → Int} {n : Nat} {fr x : Int} (h : hitF z x n < 0) : hitAns z n fr x = (fr, false) := by unfold hitAns; rw [if_pos h]
theorem hitAns_at {z : Nat → Int} {n m : Nat} {fr x : Int} (h : hitF z x n = (m : Int)) : hitAns z n fr x = (z (m * 5), (decide (z (m * 5 + 3) ≤ 2 * (x - z (m * 5 + 2)))) != odd2 (z (m * 5 + 4))) := by
  unfold hitAns; rw [if_neg (by omega), h]; simp
theorem at5 {w w5 : World} {T : TypeId} {a b c d e : Value} (h : Below (w.alloc (.cells #[a, b, c, d, e] T)).heap.size (w.alloc (.cells #[a, b, c, d, e] T)) w5) :
    w5.cell? ⟨w.heap.size, 0, none⟩ = some a ∧ w5.cell? ⟨w.heap.size, 1, none⟩ = some b ∧ w5.cell? ⟨w.heap.size, 2, none⟩ = some c ∧ w5.cell? ⟨w.heap.size, 3, none⟩ = some d ∧ w5.cell? ⟨w.heap.size, 4, none⟩ = some e := by
  have hs : w.heap.size < (w.alloc (.cells #[a, b, c, d, e] T)).heap.size := by simp
  refine ⟨?_, ?_, ?_, ?_, ?_⟩
  all_goals (rw [h.cell (p := ⟨w.heap.size, _, none⟩) hs]; simp)
theorem below_alloc (w : World) (o : Obj) : Below w.heap.size w (w.alloc o) := (Below.refl _ _).alloc (Nat.le_refl _) o

set_option maxHeartbeats 4000000 in
theorem implHit_row (f t d : Int) (b cap n : Nat) (l : List Int) (x : Int) (w : World) (hb : b < w.heap.size) (hlc : n ≤ cap) (hat : ∀ j, j < n * 5 → w.cell? ⟨b, j, none⟩ = some (.int .i64 (fn l j))) (h80 : n ≤ 80) (hx : in1 x (-40000) 40000 = true) (r : Int × Bool) (hr : Hid (lineHit (fn l) n f x = r)) :
    Calls Try.prog 10 #[.agg #[.int .i64 f, .int .i64 t, .int .i64 d, .slice (some ⟨b, 0, none⟩) n cap], .int .i64 x] w fun e w' => e = .returned (.tuple #[.int .i64 r.1, .bool r.2]) ∧ Below w.heap.size w w' := by
  have HX : Hid _ := hx
  have HA : Hid _ := hat
  have h81 : (n : Int) ≤ 80 := by omega
  have hxb : -40000 ≤ x ∧ x ≤ 40000 := by simpa [in1] using hx
  clear hx hat
  go_enter Try.func10, Try.ntmps10
  go_wp2_with fail
  refine (implPlaceOk _ _).mono ?_
  rintro e w1 ⟨rfl, rfl⟩
  rw [HX.out]
  go_wp2_with fail
  go_loopw [6, 23] (fun h i wr => ∃ (k : Nat), k ≤ n ∧ i = .int .i64 k ∧ h = .int .i64 (hitF (fn l) x k) ∧ Hid (∀ j, j < k → glyOk (fn l) j = true) ∧ Below w.heap.size w wr ∧ Hid (w.heap.size < wr.heap.size) ∧ wr.cell? ⟨w.heap.size, 0, none⟩ = some (.int .i64 f) ∧ wr.cell? ⟨w.heap.size, 3, none⟩ = some (.slice (some ⟨b, 0, none⟩) n cap)) (fun _ i _ => n - (intOf i).toNat)
  case atStart => exact ⟨0, Nat.zero_le _, rfl, rfl, fun j hj => by omega, below_alloc _ _, by show _ < _; simp, by simp, by simp⟩
  case round =>
    obtain ⟨k, hk, rfl, rfl, hall, hbel, hnew, hl0, hl3⟩ := hrel
    have hsz := hbel.size
    by_cases hlt : k < n
    · have c0 := (hbel.cell (p := ⟨b, k * 5, none⟩) hb).trans (HA.out _ (by omega))
      have c1 := (hbel.cell (p := ⟨b, k * 5 + 1, none⟩) hb).trans (HA.out _ (by omega))
      have c2 := (hbel.cell (p := ⟨b, k * 5 + 2, none⟩) hb).trans (HA.out _ (by omega))
      have c3 := (hbel.cell (p := ⟨b, k * 5 + 3, none⟩) hb).trans (HA.out _ (by omega))
      have c4 := (hbel.cell (p := ⟨b, k * 5 + 4, none⟩) hb).trans (HA.out _ (by omega))
      go_wp2_with fail
      refine (implPlaced _ _ _ _ _ _).mono ?_
      rintro e w5 ⟨rfl, b5⟩
      obtain ⟨d0, d1, d2, d3, d4⟩ := at5 b5
      have B5 := bstep (below_alloc wr _) b5
      have hl0' := (B5.cell (p := ⟨w.heap.size, 0, none⟩) hnew.out).trans hl0
      have hl3' := (B5.cell (p := ⟨w.heap.size, 3, none⟩) hnew.out).trans hl3
      have BB := bstep hbel B5
      have HN5 : Hid (w.heap.size < w5.heap.size) := by have := B5.size; have := hnew.out; show _ < _; omega
      clear c0 c1 c2 c3 c4 b5 hl0 hl3
      by_cases hg : glyOk (fn l) k = true
      · have HG : Hid _ := hg
        have hgb := glyOk_out hg
        have hg2 : (in1 (fn l (k * 5 + 2)) (-40000) 40000 && in1 (fn l (k * 5 + 3)) 0 20000) = true := hg
        rw [hg2]
        clear hg hg2
        have HALL : Hid (∀ j, j < k + 1 → glyOk (fn l) j = true) := fun j hj => by
          by_cases e : j = k
          · subst e; exact HG.out
          · exact hall.out j (by omega)
        by_cases hq : 0 < fn l (k * 5 + 3) ∧ (hitF (fn l) x k < 0 ∨ fn l (k * 5 + 2) ≤ x)
        · have HH : Hid (hitF (fn l) x (k + 1) = (k : Int)) := hitF_yes hq
          obtain ⟨q1, q2⟩ := hq
          by_cases q3 : hitF (fn l) x k < 0
          · clear q2
            go_wp2_with fail
            exact ⟨⟨k + 1, by omega, by go_num, by rw [HH.out], HALL, BB, HN5, hl0', hl3'⟩, by simp only [intOf]; omega⟩
          · have q4 : fn l (k * 5 + 2) ≤ x := by omega
            clear q2
            go_wp2_with fail
            exact ⟨⟨k + 1, by omega, by go_num, by rw [HH.out], HALL, BB, HN5, hl0', hl3'⟩, by simp only [intOf]; omega⟩
        · have HH : Hid (hitF (fn l) x (k + 1) = hitF (fn l) x k) := hitF_no hq
          by_cases q1 : 0 < fn l (k * 5 + 3)
          · have q3 : ¬ hitF (fn l) x k < 0 := by omega
            have q4 : ¬ fn l (k * 5 + 2) ≤ x := by omega
            clear hq
            go_wp2_with fail
            exact ⟨⟨k + 1, by omega, by go_num, by rw [HH.out], HALL, BB, HN5, hl0', hl3'⟩, by simp only [intOf]; omega⟩
          · clear hq
            go_wp2_with fail
            exact ⟨⟨k + 1, by omega, by go_num, by rw [HH.out], HALL, BB, HN5, hl0', hl3'⟩, by simp only [intOf]; omega⟩
      · have hg1 : glyOk (fn l) k = false := by simpa using hg
        have hg2 : (in1 (fn l (k * 5 + 2)) (-40000) 40000 && in1 (fn l (k * 5 + 3)) 0 20000) = false := hg1
        have HR : Hid (r = (0, false)) := by show _ = _; rw [← hr.out]; exact lineHit_bad hlt hg1
        rw [hg2]
        clear hg hg1 hg2
        go_wp2_with fail
        go_ret2
        exact ⟨retIB HR.out, BB⟩
    · have e : k = n := by omega
      subst e
      have HR : Hid (r = hitAns (fn l) k f x) := by show _ = _; rw [← hr.out]; exact lineHit_is h80 HX.out hall.out
      by_cases hq : hitF (fn l) x k < 0
      · have HR2 : Hid (r = (f, false)) := by show _ = _; rw [HR.out]; exact hitAns_none hq
        go_wp2_with fail
        go_ret2
        exact ⟨retIB HR2.out, hbel⟩
      · obtain ⟨hm0, hm1⟩ := hitF_lt (fn l) x k
        obtain ⟨m, hm⟩ : ∃ m : Nat, hitF (fn l) x k = (m : Int) := ⟨(hitF (fn l) x k).toNat, by omega⟩
        have hmk : m < k := by omega
        have HR2 : Hid _ := HR.out.trans (hitAns_at (fr := f) hm)
        have hgb := glyOk_out (hall.out m hmk)
        rw [hm]
        clear hm hm0 hm1 hq
        have c0 := (hbel.cell (p := ⟨b, m * 5, none⟩) hb).trans (HA.out _ (by omega))
        have c1 := (hbel.cell (p := ⟨b, m * 5 + 1, none⟩) hb).trans (HA.out _ (by omega))
        have c2 := (hbel.cell (p := ⟨b, m * 5 + 2, none⟩) hb).trans (HA.out _ (by omega))
        have c3 := (hbel.cell (p := ⟨b, m * 5 + 3, none⟩) hb).trans (HA.out _ (by omega))
        have c4 := (hbel.cell (p := ⟨b, m * 5 + 4, none⟩) hb).trans (HA.out _ (by omega))
        go_wp2_with fail
        go_quiet ((go_at_call 35; exact Calls.quiet_of_same (implOdd _ _)))
        go_wp2_with fail
        go_ret2
        exact ⟨retIB HR2.out, bstep (bstep hbel (below_alloc _ _)) (below_draws _ _)⟩

set_option maxHeartbeats 4000000 in
theorem implHit (f t d : Int) (v : Value) (n : Nat) (l : List Int) (x : Int) (w : World) (hv : ArgG w v n l) (r : Int × Bool) (hr : Hid (lineHit (fn l) n f x = r)) :
    Calls Try.prog 10 #[.agg #[.int .i64 f, .int .i64 t, .int .i64 d, v], .int .i64 x] w fun e w' => e = .returned (.tuple #[.int .i64 r.1, .bool r.2]) ∧ Below w.heap.size w w' := by
  by_cases h80 : 80 < n
  · have e : r = (0, false) := by rw [← hr.out]; exact lineHit_long h80
    subst e
    have h81 : (80 : Int) < (n : Int) := by omega
    rcases hv with ⟨a, cap, rfl, rfl⟩ | ⟨b, cap, rfl, hb, hlc, hcm, hat⟩
    · omega
    · clear hat
      go_enter Try.func10, Try.ntmps10
      go_wp2_with fail
      go_ret2
      exact ⟨rfl, by go_grown⟩
  · have h81 : (n : Int) ≤ 80 := by omega
    by_cases hx : in1 x (-40000) 40000 = true
    · rcases hv with ⟨a, cap, rfl, rfl⟩ | ⟨b, cap, rfl, hb, hlc, hcm, hat⟩
      · have HR : Hid (r = (f, false)) := by show _ = _; rw [← hr.out, lineHit_is (by omega) hx (fun k hk => by omega)]; exact hitAns_none (by simp [hitF])
        have HX : Hid _ := hx
        clear hx
        go_enter Try.func10, Try.ntmps10
        go_wp2_with fail
        refine (implPlaceOk _ _).mono ?_
        rintro e w1 ⟨rfl, rfl⟩
        rw [HX.out]
        go_wp2_with fail
        go_rounds 1
        go_ret2
        exact ⟨retIB HR.out, by go_grown⟩
      · exact implHit_row f t d b cap n l x w hb hlc hat (by omega) hx r hr
    · have hx1 : in1 x (-40000) 40000 = false := by simpa using hx
      have HR : Hid (r = (0, false)) := by show _ = _; rw [← hr.out]; exact lineHit_x hx1
      have HX : Hid _ := hx1
      clear hx hx1
      rcases hv with ⟨a, cap, rfl, rfl⟩ | ⟨b, cap, rfl, hb, hlc, hcm, hat⟩
      all_goals
        go_enter Try.func10, Try.ntmps10
        go_wp2_with fail
        refine (implPlaceOk _ _).mono ?_
        rintro e w1 ⟨rfl, rfl⟩
        rw [HX.out]
        go_wp2_with fail
        go_ret2
        exact ⟨retIB HR.out, by go_grown⟩
end Go.Proofs.Ytgjhhfmhaalcnaa
