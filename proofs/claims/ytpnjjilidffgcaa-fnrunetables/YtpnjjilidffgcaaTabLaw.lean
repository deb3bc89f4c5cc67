import Derived.Test.YtpnjjilidffgcaaDraw4
import Derived.Test.YtpnjjilidffgcaaBytesRow
import Derived.Test.YtpnjjilidffgcaaLineSpec
import Derived.Test.YtpnjjilidffgcaaWideSpec
namespace Go.Proofs.Ytpnjjilidffgcaa
open Go.ChangeShapes Go.WideShapes Go.ChangeAt Go.RowKit
set_option linter.unusedSimpArgs false

set_option maxHeartbeats 1000000 in
theorem wcIn_in (n lo hi : Int) (h1 : lo ≤ n) (h2 : n ≤ hi) (w : World) : Calls Try.prog 19 #[.int .i64 n, .int .i64 lo, .int .i64 hi] w fun e w' => e = .returned (.bool true) ∧ w' = w := by
  go_enter Try.func19, Try.ntmps19
  go_wp2
  go_ret
  exact ⟨rfl, rfl⟩

theorem wide_zero (c r : Int) : (c = 9 ∨ c = 10 ∨ 14 ≤ c ∨ r = 10 ∨ r = 13) → wideOf c r = 0 := by
  intro h; unfold wideOf; rw [if_pos h]
theorem wide_some (c r : Int) (h : ¬ (c = 9 ∨ c = 10 ∨ 14 ≤ c ∨ r = 10 ∨ r = 13)) : 1 ≤ wideOf c r := by
  unfold wideOf; rw [if_neg h]; repeat' split
  all_goals omega
theorem wide_rng (c r : Int) : 0 ≤ wideOf c r ∧ wideOf c r ≤ 40 := by
  unfold wideOf; repeat' split
  all_goals omega

set_option maxRecDepth 10000 in
set_option maxHeartbeats 1000000 in
theorem drawBidi (a : Option Addr) (len cap : Nat) (w : World) (h : Bytes w a len cap) :
    Calls Try.prog 13 #[.slice a len cap] w fun e w' => (∃ x : Int, e = .returned (.int .i64 x)) ∧ Below w.heap.size w w' := by
  go_enter Try.func13, Try.ntmps13
  go_wp2_with fail
  refine (open_any a len cap w h).mono ?_
  rintro e w1 ⟨rfl, hr, hb⟩
  have hl1 := hr.lt
  go_wp2_with fail
  refine (rune_any _ 0 _ hr (by omega)).mono ?_
  rintro e w2 ⟨⟨x, rfl⟩, p, hp, hW⟩
  have hR2 := hW.rd
  go_wp2_with fail
  refine (pick_went _ p 300 _ hR2 (by omega) (by omega) (by omega)).mono ?_
  rintro e w3 ⟨⟨k1, rfl, hk1⟩, hW3, hsz3⟩
  clear hsz3
  have hR3 := hW3.rd
  go_wp2_with fail
  refine (pick_went _ (p + 1) 120 _ hR3 (by omega) (by omega) (by omega)).mono ?_
  rintro e w4 ⟨⟨k2, rfl, hk2⟩, hW4, hsz4⟩
  clear hsz4
  have hR4 := hW4.rd
  go_wp2_with fail
  refine (pick_went _ (p + 1 + 1) 140 _ hR4 (by omega) (by omega) (by omega)).mono ?_
  rintro e w5 ⟨⟨k3, rfl, hk3⟩, hW5, hsz5⟩
  clear hsz5
  have hR5 := hW5.rd
  have hs5 := hR5.lt
  go_wp2_with fail
  refine (pick_went _ (p + 1 + 1 + 1) 5 _ (hR5.alloc _) (by omega) (by omega) (by omega)).mono ?_
  rintro e w6 ⟨⟨k, rfl, hk⟩, hW6, hsz⟩
  have hB : Below w.heap.size w w6 := by
    refine (hb.trans ((((hW.trans hW3).trans hW4).trans hW5).below (Nat.le_refl _) hl1)).trans ?_
    have h5 : Went w5 w6 w.heap.size (p + 1 + 1 + 1 + 1) := ⟨hW6.rd, grown_trans (grown_alloc w5 _ _) hW6.gr⟩
    exact h5.below (Nat.le_refl _) hs5
  have hblk : w6.heap[w5.heap.size]? = _ := hW6.gr.block w5.heap.size (by simp) (by simp; omega)
  have hc : ∀ j : Nat, j < 5 → ∃ y : Int, w6.cell? ⟨w5.heap.size, j, none⟩ = some (.int .i64 y) := by
    intro j hj
    rw [World.cell?_of_block (a := ⟨w5.heap.size, j, none⟩) hblk]
    rcases (show j = 0 ∨ j = 1 ∨ j = 2 ∨ j = 3 ∨ j = 4 by omega) with rfl | rfl | rfl | rfl | rfl <;> simp
  obtain ⟨y0, hy0⟩ := hc 0 (by omega)
  obtain ⟨y1, hy1⟩ := hc 1 (by omega)
  obtain ⟨y2, hy2⟩ := hc 2 (by omega)
  obtain ⟨y3, hy3⟩ := hc 3 (by omega)
  obtain ⟨y4, hy4⟩ := hc 4 (by omega)
  clear hblk hW6 hsz hc hR5 hR4 hR3 hR2 hW hW3 hW4 hW5 hr hb
  rcases (show k = 0 ∨ k = 1 ∨ k = 2 ∨ k = 3 ∨ k = 4 by omega) with rfl | rfl | rfl | rfl | rfl
  all_goals
    go_wp2_with fail
    go_ret
    exact ⟨⟨_, rfl⟩, hB⟩

set_option maxHeartbeats 4000000 in
theorem tabLaw (a : Option Addr) (len cap : Nat) (w : World) (h : Bytes w a len cap) :
    Calls Try.prog 4 #[.slice a len cap] w fun e w' => e = .returned (.bool true) ∧ Below w.heap.size w w' := by
  by_cases hbig : 1048576 < len
  · have hbig2 : (1048576 : Int) < (len : Int) := by omega
    go_enter Try.func4, Try.ntmps4
    go_wp2_with fail
    go_ret
    exact ⟨rfl, Below.refl _ _⟩
  · have hbig2 : (len : Int) ≤ 1048576 := by omega
    go_enter Try.func4, Try.ntmps4
    go_wp2_with fail
    refine (drawBidi a len cap w h).mono ?_
    rintro e w1 ⟨⟨r, rfl⟩, b1⟩
    obtain ⟨c, hc⟩ : ∃ c, bidi r = c := ⟨_, rfl⟩
    obtain ⟨l, hl⟩ : ∃ l, lineI r = l := ⟨_, rfl⟩
    obtain ⟨d, hd⟩ : ∃ d, wideOf c r = d := ⟨_, rfl⟩
    have hcr := bidi_rng r
    have hlr := lineS_rng r
    have hdr := wide_rng c r
    have hz := wide_zero c r
    have hs := wide_some c r
    rw [← line_same] at hlr
    rw [hc] at hcr
    rw [hl] at hlr
    rw [hd] at hdr hz hs
    have HC : Hid _ := hc
    have HL : Hid _ := hl
    have HD : Hid _ := hd
    obtain ⟨c1, c2⟩ := hcr
    obtain ⟨l1, l2⟩ := hlr
    obtain ⟨d1, d2⟩ := hdr
    have HZ : Hid _ := hz
    have HS : Hid _ := hs
    clear hc hl hd hz hs
    go_wp2_with fail
    refine (implBidi _ _).mono ?_
    rintro e w2 ⟨rfl, b2⟩
    rw [HC.out]
    go_wp2_with fail
    refine (implLine _ _).mono ?_
    rintro e w3 ⟨rfl, b3⟩
    rw [HL.out]
    go_wp2_with fail
    refine (implWide _ _).mono ?_
    rintro e w4 ⟨rfl, b4⟩
    rw [HC.out, HD.out]
    go_wp2_with fail
    refine (specBidi _ _).mono ?_
    rintro e w5 ⟨rfl, b5⟩
    rw [HC.out]
    go_wp2_with fail
    refine (specLine _ _).mono ?_
    rintro e w6 ⟨rfl, b6⟩
    rw [HL.out]
    go_wp2_with fail
    refine (specWide _ _).mono ?_
    rintro e w7 ⟨rfl, b7⟩
    rw [HC.out, HD.out]
    go_wp2_with fail
    refine (wcIn_in _ _ _ c1 c2 _).mono ?_
    rintro e w8 ⟨rfl, rfl⟩
    go_wp2_with fail
    refine (wcIn_in _ _ _ l1 l2 _).mono ?_
    rintro e w9 ⟨rfl, rfl⟩
    go_wp2_with fail
    refine (wcIn_in _ _ _ d1 d2 _).mono ?_
    rintro e w10 ⟨rfl, rfl⟩
    have hB := bstep2 (bstep2 (bstep2 (bstep2 (bstep2 (bstep2 b1 b2) b3) b4) b5) b6) b7
    clear b1 b2 b3 b4 b5 b6 b7 HC HL HD
    by_cases q : c = 9 ∨ c = 10 ∨ 14 ≤ c ∨ r = 10 ∨ r = 13
    · have e0 := HZ.out q
      subst e0
      by_cases q1 : c = 9
      · subst q1
        go_wp2_with fail
        go_ret
        exact ⟨rfl, hB⟩
      · have q1' : (c == 9) = false := by simpa using q1
        by_cases q2 : c = 10
        · subst q2
          go_wp2_with fail
          go_ret
          exact ⟨rfl, hB⟩
        · have q2' : (c == 10) = false := by simpa using q2
          by_cases q3 : 14 ≤ c
          · clear q
            go_wp2_with fail
            go_ret
            exact ⟨rfl, hB⟩
          · have q3' : decide (14 ≤ c) = false := by simpa using q3
            by_cases q4 : r = 10
            · subst q4
              clear q
              go_wp2_with fail
              go_ret
              exact ⟨rfl, hB⟩
            · have q4' : (r == 10) = false := by simpa using q4
              have q5 : r = 13 := by omega
              subst q5
              clear q
              go_wp2_with fail
              go_ret
              exact ⟨rfl, hB⟩
    · have e0 := HS.out q
      have d0 : (d == 0) = false := by simp; omega
      have q1' : (c == 9) = false := by simp; omega
      have q2' : (c == 10) = false := by simp; omega
      have q3' : decide (14 ≤ c) = false := by simp; omega
      have q4' : (r == 10) = false := by simp; omega
      have q5' : (r == 13) = false := by simp; omega
      have q6 : c < 14 := by omega
      clear q
      go_wp2_with fail
      go_ret
      exact ⟨rfl, hB⟩
end Go.Proofs.Ytpnjjilidffgcaa
