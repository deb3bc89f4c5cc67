import Derived.Test.YteefeciiaekdlaaRunRow
import Derived.Test.YteefeciiaekdlaaLawMark
import Derived.Deep.RegionWith
namespace Go.Proofs.Yteefeciiaekdlaa
open Go.ChangeShapes Go.WideShapes Go.ChangeAt Go.RowKit
set_option linter.unusedSimpArgs false

set_option maxHeartbeats 1000000 in
theorem eqRun_same (x y z : Int) (w : World) :
    Calls Try.prog 45 #[.agg #[.int .i64 x, .int .i64 y, .int .i64 z], .agg #[.int .i64 x, .int .i64 y, .int .i64 z]] w fun e w' => e = .returned (.bool true) ∧ Below w.heap.size w w' := by
  go_enter Try.func45, Try.ntmps45
  go_wp2_with fail
  go_ret
  exact ⟨rfl, by go_grown⟩

set_option maxHeartbeats 4000000 in
theorem markR (v : Value) (n : Nat) (l : List Int) (B : Nat) (k : Int) (w : World) (hv : OwnR w B v n l) (hl : n ≤ 1048576) (hk0 : 0 ≤ k) (hk1 : k ≤ 1000000000000) :
    Calls Try.prog 25 #[v, .int .i64 k] w fun e w' => e = .returned (.int .i64 (k + 3 * (n : Int))) ∧ OwnR w' B v n (marks k (n * 3)) ∧ w.grownBy w' v.ownBlock := by
  rcases hv.forms with ⟨rfl, rfl⟩ | ⟨g, cap, rfl, hg, hgw, hlc, hcm⟩
  · go_enter Try.func25, Try.ntmps25
    go_wp2
    go_rounds 1
    go_ret
    exact ⟨retInt (by simp), OwnR.nil _ _, ⟨rfl, rfl, rfl, Nat.le_refl _, fun _ _ _ => rfl⟩⟩
  · go_enter Try.func25, Try.ntmps25
    go_wp2
    go_loopw [1, 5] (fun q i wr => ∃ (m : Nat) (l' : List Int), m ≤ n ∧ i = .int .i64 m ∧ q = .int .i64 (k + 3 * (m : Int)) ∧ OwnR wr B (.slice (some ⟨g, 0, none⟩) n cap) n l' ∧ Hid (∀ j, j < m * 3 → fn l' j = k + (j : Int)) ∧ w.grownBy wr (some g)) (fun _ i _ => n - (intOf i).toNat)
    case atStart => exact ⟨0, l, Nat.zero_le _, rfl, by go_num, hv, fun j hj => by omega, ⟨rfl, rfl, rfl, Nat.le_refl _, fun _ _ _ => rfl⟩⟩
    case round =>
      obtain ⟨m, l', hm, rfl, rfl, hown, hsame, hgr⟩ := hrel
      by_cases hlt : m < n
      · have f0 := hown.frozen (m * 3)
        have f1 := hown.frozen (m * 3 + 1)
        have f2 := hown.frozen (m * 3 + 2)
        have c0 := hown.cell (m * 3) (by omega)
        have c1 := hown.cell (m * 3 + 1) (by omega)
        have c2 := hown.cell (m * 3 + 2) (by omega)
        go_wp2
        refine ⟨⟨m + 1, ((l'.set (m * 3) (k + 3 * (m : Int))).set (m * 3 + 1) (k + 3 * (m : Int) + 1)).set (m * 3 + 2) (k + 3 * (m : Int) + 1 + 1), by omega, by go_num, by go_num, ((hown.stored (m * 3) _).stored (m * 3 + 1) _).stored (m * 3 + 2) _, fun j hj => ?_, ?_⟩, by simp only [intOf]; omega⟩
        · have e := hown.len
          by_cases e2 : j = m * 3 + 2
          · subst e2; rw [fn_set_same (by simp; omega)]; omega
          · rw [fn_set_other (by omega)]
            by_cases e1 : j = m * 3 + 1
            · subst e1; rw [fn_set_same (by simp; omega)]; omega
            · rw [fn_set_other (by omega)]
              by_cases e0 : j = m * 3
              · subst e0; rw [fn_set_same (by omega)]; omega
              · rw [fn_set_other (by omega)]; exact hsame.out j (by omega)
        · refine ⟨hgr.os, hgr.tape, hgr.output, by simpa using hgr.size, fun i hi hne => ?_⟩
          have hne2 : i ≠ g := fun e => hne (by rw [e])
          rw [heap_setCell_other _ ⟨g, m * 3 + 2, none⟩ i _ (fun e => hne2 (by simpa using e)), heap_setCell_other _ ⟨g, m * 3 + 1, none⟩ i _ (fun e => hne2 (by simpa using e)), heap_setCell_other _ ⟨g, m * 3, none⟩ i _ (fun e => hne2 (by simpa using e))]
          exact hgr.block i hi hne
      · have e : m = n := by omega
        subst e
        go_wp2
        go_ret
        have e := hown.len
        have el : l' = marks k (m * 3) := ext_fn (by rw [marks_len]; exact e) (fun j hj => by rw [hsame.out j (by omega), fn_marks (by omega)])
        rw [el] at hown
        exact ⟨rfl, hown, hgr⟩

set_option maxHeartbeats 4000000 in
theorem heldR (v : Value) (n B : Nat) (k : Int) (w : World) (hv : OwnR w B v n (marks k (n * 3))) (hl : n ≤ 1048576) (hk0 : 0 ≤ k) (hk1 : k ≤ 1000000000000) :
    Calls Try.prog 26 #[v, .int .i64 k] w fun e w' => e = .returned (.int .i64 (k + 3 * (n : Int))) ∧ w' = w := by
  rcases hv.forms with ⟨rfl, rfl⟩ | ⟨g, cap, rfl, hg, hgw, hlc, hcm⟩
  · go_enter Try.func26, Try.ntmps26
    go_wp2
    go_rounds 1
    go_ret
    exact ⟨retInt (by simp), rfl⟩
  · go_enter Try.func26, Try.ntmps26
    go_wp2
    go_loop [1, 5] (fun q i => ∃ (m : Nat), m ≤ n ∧ i = .int .i64 m ∧ q = .int .i64 (k + 3 * (m : Int))) (fun _ i => n - (intOf i).toNat)
    case atStart => exact ⟨0, Nat.zero_le _, rfl, by go_num⟩
    case round =>
      obtain ⟨m, hm, rfl, rfl⟩ := hrel
      by_cases hlt : m < n
      · have c0 : w.cell? ⟨g, m * 3, none⟩ = some (.int .i64 (k + 3 * (m : Int))) := by
          rw [hv.cell (m * 3) (by omega), fn_marks (by omega)]; congr 2; omega
        have c1 : w.cell? ⟨g, m * 3 + 1, none⟩ = some (.int .i64 (k + 3 * (m : Int) + 1)) := by
          rw [hv.cell (m * 3 + 1) (by omega), fn_marks (by omega)]; congr 2; omega
        have c2 : w.cell? ⟨g, m * 3 + 2, none⟩ = some (.int .i64 (k + 3 * (m : Int) + 1 + 1)) := by
          rw [hv.cell (m * 3 + 2) (by omega), fn_marks (by omega)]; congr 2; omega
        go_wp2
        refine ⟨⟨m + 1, by omega, by go_num, by go_num⟩, by simp only [intOf]; omega⟩
      · have e : m = n := by omega
        subst e
        go_wp2
        go_ret
        exact ⟨rfl, rfl⟩

set_option maxHeartbeats 4000000 in
theorem eqRuns_yes (v1 v2 : Value) (n1 n2 B1 B2 : Nat) (l : List Int) (w : World) (h1 : OwnR w B1 v1 n1 l) (h2 : OwnR w B2 v2 n2 l) (hl : n1 ≤ 1048576) :
    Calls Try.prog 24 #[v1, v2] w fun e w' => e = .returned (.bool true) ∧ Below w.heap.size w w' := by
  have e1 := h1.len
  have e2 := h2.len
  have en : n2 = n1 := by omega
  subst en
  clear e1 e2
  by_cases h0 : n2 = 0
  · subst h0
    rcases h1.forms with ⟨rfl, _⟩ | ⟨g, cap, rfl, _⟩
    all_goals
      rcases h2.forms with ⟨rfl, _⟩ | ⟨g2, cap2, rfl, _⟩
      all_goals
        go_enter Try.func24, Try.ntmps24
        go_wp2
        go_rounds 1
        go_ret
        exact ⟨rfl, Below.refl _ _⟩
  · rcases h1.forms with ⟨_, e⟩ | ⟨g, cap, rfl, hg, hgw, hlc, hcm⟩
    · exact absurd e h0
    rcases h2.forms with ⟨_, e⟩ | ⟨g2, cap2, rfl, hg2, hgw2, hlc2, hcm2⟩
    · exact absurd e h0
    go_enter Try.func24, Try.ntmps24
    go_wp2_with fail
    go_loopw [5] (fun i wr => ∃ (k : Nat), k ≤ n2 ∧ i = .int .i64 k ∧ Below w.heap.size w wr) (fun i _ => n2 - (intOf i).toNat)
    case atStart => exact ⟨0, Nat.zero_le _, rfl, Below.refl _ _⟩
    case round =>
      obtain ⟨k, hk, rfl, hbel⟩ := hrel
      by_cases hlt : k < n2
      · have a0 := (h1.below hbel).cell (k * 3) (by omega)
        have a1 := (h1.below hbel).cell (k * 3 + 1) (by omega)
        have a2 := (h1.below hbel).cell (k * 3 + 2) (by omega)
        have b0 := (h2.below hbel).cell (k * 3) (by omega)
        have b1 := (h2.below hbel).cell (k * 3 + 1) (by omega)
        have b2 := (h2.below hbel).cell (k * 3 + 2) (by omega)
        have hki : (k : Int) < (n2 : Int) := by omega
        go_wp2_with fail
        go_region_with (go_at_call 45; refine (eqRun_same _ _ _ _).mono ?_; rintro e w5 ⟨rfl, b5⟩)
        all_goals (go_wp2_with fail)
        all_goals (refine ⟨⟨k + 1, by omega, by go_num, bstep hbel.drew b5⟩, by simp only [intOf]; omega⟩)
      · have e : k = n2 := by omega
        subst e
        go_wp2_with fail
        go_ret
        exact ⟨rfl, hbel⟩
end Go.Proofs.Yteefeciiaekdlaa
