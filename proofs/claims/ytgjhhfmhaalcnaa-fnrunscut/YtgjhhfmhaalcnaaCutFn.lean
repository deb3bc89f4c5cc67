import Derived.Test.YtgjhhfmhaalcnaaCutMath
namespace Go.Proofs.Ytgjhhfmhaalcnaa
open Go.ChangeShapes Go.WideShapes Go.ChangeAt Go.RowKit
set_option linter.unusedSimpArgs false

/-- Runs that can be read. -/
def RR (w : World) (a : Option Addr) (n : Nat) (l : List Int) : Prop := ∀ j, j < n * 3 → ∃ g, a = some ⟨g, 0, none⟩ ∧ g < w.heap.size ∧ w.cell? ⟨g, j, none⟩ = some (.int .i64 (fn l j))
theorem RR.below {w w' : World} {a : Option Addr} {n B : Nat} {l : List Int} (h : RR w a n l) (hb : Below B w w') (hB : ∀ g o, a = some ⟨g, o, none⟩ → g < B) : RR w' a n l := fun j hj => by
  obtain ⟨g, rfl, h1, h2⟩ := h j hj
  exact ⟨g, rfl, Nat.lt_of_lt_of_le h1 hb.size, (hb.cell (p := ⟨g, j, none⟩) (hB g 0 rfl)).trans h2⟩
theorem RR.step {w w' : World} {a : Option Addr} {n : Nat} {l : List Int} (h : RR w a n l) (hb : Below w.heap.size w w') : RR w' a n l := fun j hj => by
  obtain ⟨g, rfl, h1, h2⟩ := h j hj
  exact ⟨g, rfl, Nat.lt_of_lt_of_le h1 hb.size, (hb.cell (p := ⟨g, j, none⟩) h1).trans h2⟩
theorem OwnR.rr {w : World} {v : Value} {l : List Int} {B n : Nat} (h : OwnR w B v n l) : ∃ a c, v = .slice a n c ∧ n ≤ maxLen ∧ RR w a n l ∧ ∀ g o, a = some ⟨g, o, none⟩ → B ≤ g := by
  rcases h.forms with ⟨rfl, rfl⟩ | ⟨g, c, rfl, h1, h2, h3, h4⟩
  · exact ⟨none, 0, rfl, by unfold maxLen; omega, fun j hj => by omega, fun g o e => by cases e⟩
  · exact ⟨_, c, rfl, by omega, fun j hj => ⟨g, rfl, h2, h.cell j hj⟩, fun g' o e => by cases e; exact h1⟩
/-- The three numbers of a run. -/
theorem RR.three {w : World} {a : Option Addr} {n k : Nat} {l : List Int} (h : RR w a n l) (hk : k < n) : ∃ g, a = some ⟨g, 0, none⟩ ∧ g < w.heap.size ∧ w.cell? ⟨g, k * 3, none⟩ = some (.int .i64 (fn l (k * 3))) ∧ w.cell? ⟨g, k * 3 + 1, none⟩ = some (.int .i64 (fn l (k * 3 + 1))) ∧ w.cell? ⟨g, k * 3 + 2, none⟩ = some (.int .i64 (fn l (k * 3 + 2))) := by
  obtain ⟨g, rfl, h1, h2⟩ := h (k * 3) (by omega)
  obtain ⟨g', e, _, h3⟩ := h (k * 3 + 1) (by omega)
  simp only [Option.some.injEq, Addr.mk.injEq] at e
  obtain ⟨rfl, _⟩ := e
  obtain ⟨g', e, _, h4⟩ := h (k * 3 + 2) (by omega)
  simp only [Option.some.injEq, Addr.mk.injEq] at e
  obtain ⟨rfl, _⟩ := e
  exact ⟨g, rfl, h1, h2, h3, h4⟩

set_option maxHeartbeats 1000000 in
theorem specLeastR (x y : Int) (w : World) : Calls Try.prog 45 #[.int .i64 x, .int .i64 y] w fun e w' => e = .returned (.int .i64 (leastI x y)) ∧ w' = w := by
  by_cases h : x < y
  · have HE : Hid (leastI x y = x) := by show _ = _; simp [leastI, h]
    go_enter Try.func45, Try.ntmps45
    go_wp2
    go_ret
    exact ⟨retInt HE.out.symm, rfl⟩
  · have HE : Hid (leastI x y = y) := by show _ = _; simp [leastI, h]
    go_enter Try.func45, Try.ntmps45
    go_wp2
    go_ret
    exact ⟨retInt HE.out.symm, rfl⟩

set_option maxHeartbeats 2000000 in
theorem specWhole (a : Option Addr) (n cap : Nat) (l : List Int) (w : World) (h : RR w a n l) (hn : n ≤ maxLen) :
    Calls Try.prog 44 #[.slice a n cap] w fun e w' => e = .returned (.bool (wB (fn l) n && decide (wE (fn l) n ≤ 80))) ∧ w' = w := by
  unfold maxLen at hn
  have HR : Hid (RR w a n l) := h
  clear h
  go_enter Try.func44, Try.ntmps44
  go_wp2
  go_loop [3, 4] (fun q i => ∃ k : Nat, k ≤ n ∧ i = .int .i64 k ∧ q = .int .i64 (wE (fn l) k) ∧ Hid (wB (fn l) k = true)) (fun _ i => n - (intOf i).toNat)
  case atStart => exact ⟨0, Nat.zero_le _, rfl, rfl, rfl⟩
  case round =>
    obtain ⟨k, hk, rfl, rfl, hw⟩ := hrel
    by_cases hlt : k < n
    · obtain ⟨g, rfl, _, c0, c1, _⟩ := HR.out.three hlt
      have hki : (k : Int) < (n : Int) := by omega
      have HE : Hid (wE (fn l) (k + 1) = fn l (k * 3 + 1)) := rfl
      have HY : Hid (fn l (k * 3) = wE (fn l) k → wE (fn l) k < fn l (k * 3 + 1) → wB (fn l) (k + 1) = true) := fun h1 h2 => wB_next hw.out h1 h2
      have HX : Hid (¬ (fn l (k * 3) = wE (fn l) k ∧ wE (fn l) k < fn l (k * 3 + 1)) → wB (fn l) n = false) := fun h1 => wB_no hlt h1
      obtain ⟨x, hx⟩ : ∃ x, fn l (k * 3) = x := ⟨_, rfl⟩
      obtain ⟨y, hy⟩ : ∃ y, fn l (k * 3 + 1) = y := ⟨_, rfl⟩
      obtain ⟨e, he⟩ : ∃ e, wE (fn l) k = e := ⟨_, rfl⟩
      rw [hx, hy, he] at HY HX
      rw [hx] at c0
      rw [hy] at c1 HE
      rw [he]
      clear hx hy he
      by_cases h1 : x = e
      · subst h1
        by_cases h2 : x < y
        · have HW := HY.out rfl h2
          have HW2 : Hid _ := HW
          clear HW
          go_wp2
          go_round
          case rel => exact ⟨k + 1, by omega, by go_num, by rw [HE.out], HW2⟩
          case measure => simp only [intOf]; omega
        · have HW : Hid _ := HX.out (fun q => h2 q.2)
          have h3 : y ≤ x := by omega
          clear h2
          go_wp2
          go_ret
          exact ⟨retBool (by rw [HW.out]; rfl), rfl⟩
      · have HW : Hid _ := HX.out (fun q => h1 q.1)
        have h2 : (x == e) = false := by simpa using h1
        have h3 : (x != e) = true := by simpa using h1
        clear h1
        go_wp2
        go_ret
        exact ⟨retBool (by rw [HW.out]; rfl), rfl⟩
    · have e : k = n := by omega
      subst e
      go_wp2
      go_ret
      exact ⟨retBool (by rw [hw.out]; simp), rfl⟩

set_option maxHeartbeats 2000000 in
theorem implEndR (a : Option Addr) (n cap : Nat) (l : List Int) (w : World) (h : RR w a n l) (hn : n ≤ maxLen) :
    Calls Try.prog 41 #[.slice a n cap] w fun e w' => e = .returned (.int .i64 (endI (fn l) n)) ∧ Below w.heap.size w w' := by
  unfold maxLen at hn
  have HR : Hid (RR w a n l) := h
  clear h
  go_enter Try.func41, Try.ntmps41
  go_wp2
  go_loopw [3, 8] (fun q i wr => ∃ k : Nat, k ≤ n ∧ i = .int .i64 k ∧ q = .int .i64 (wE (fn l) k) ∧ Hid (wB (fn l) k = true) ∧ Hid (wE (fn l) k ≤ 80) ∧ Below w.heap.size w wr) (fun _ i _ => n - (intOf i).toNat)
  case atStart => exact ⟨0, Nat.zero_le _, rfl, rfl, rfl, by show (0 : Int) ≤ 80; omega, Below.refl _ _⟩
  case round =>
    obtain ⟨k, hk, rfl, rfl, hw, h80, hbel⟩ := hrel
    by_cases hlt : k < n
    · obtain ⟨g, rfl, hg, c0, c1, c2⟩ := (HR.out.step hbel).three hlt
      have hki : (k : Int) < (n : Int) := by omega
      have HE : Hid (wE (fn l) (k + 1) = fn l (k * 3 + 1)) := rfl
      have HY : Hid (fn l (k * 3) = wE (fn l) k → wE (fn l) k < fn l (k * 3 + 1) → wB (fn l) (k + 1) = true) := fun h1 h2 => wB_next hw.out h1 h2
      have HX : Hid (¬ (fn l (k * 3) = wE (fn l) k ∧ wE (fn l) k < fn l (k * 3 + 1)) → endI (fn l) n = 0) := fun h1 => endI_bad (wB_no hlt h1)
      have HZ : Hid (80 < fn l (k * 3 + 1) → endI (fn l) n = 0) := fun h1 => endI_long (k := k + 1) (by omega) h1
      obtain ⟨x, hx⟩ : ∃ x, fn l (k * 3) = x := ⟨_, rfl⟩
      obtain ⟨y, hy⟩ : ∃ y, fn l (k * 3 + 1) = y := ⟨_, rfl⟩
      obtain ⟨u, hu⟩ : ∃ u, fn l (k * 3 + 2) = u := ⟨_, rfl⟩
      obtain ⟨e, he⟩ : ∃ e, wE (fn l) k = e := ⟨_, rfl⟩
      rw [hx, hy, he] at HY HX
      rw [hx] at c0
      rw [hy] at c1 HE HZ
      rw [hu] at c2
      rw [he]
      clear hx hy he hu
      by_cases h1 : x = e
      · subst h1
        by_cases h2 : x < y
        · have HW2 : Hid _ := HY.out rfl h2
          by_cases h3 : 80 < y
          · have HW : Hid _ := HZ.out h3
            go_wp2
            go_ret
            exact ⟨retInt HW.out.symm, hbel.alloc hbel.size _⟩
          · have h4 : y ≤ 80 := by omega
            have H4 : Hid (wE (fn l) (k + 1) ≤ 80) := by show _ ≤ _; rw [HE.out]; exact h4
            clear h3
            go_wp2
            go_roundw
            case rel => exact ⟨k + 1, by omega, by go_num, by rw [HE.out], HW2, H4, hbel.alloc hbel.size _⟩
            case measure => simp only [intOf]; omega
        · have HW : Hid _ := HX.out (fun q => h2 q.2)
          have h3 : y ≤ x := by omega
          clear h2
          go_wp2
          go_ret
          exact ⟨retInt HW.out.symm, hbel.alloc hbel.size _⟩
      · have HW : Hid _ := HX.out (fun q => h1 q.1)
        have h2 : (x == e) = false := by simpa using h1
        have h3 : (x != e) = true := by simpa using h1
        clear h1
        go_wp2
        go_ret
        exact ⟨retInt HW.out.symm, hbel.alloc hbel.size _⟩
    · have e : k = n := by omega
      subst e
      go_wp2
      go_ret
      exact ⟨retInt (endI_yes hw.out h80.out).symm, hbel⟩
end Go.Proofs.Ytgjhhfmhaalcnaa
