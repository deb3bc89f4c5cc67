import Derived.Test.YtbeecmcgdlnakaaWc
import Derived.Test.YtbeecmcgdlnakaaRRow
import Derived.Deep.QuietTactic
import Derived.BigQuiet
namespace Go.Proofs.Ytbeecmcgdlnakaa
open Go.ChangeShapes Go.WideShapes Go.ChangeAt Go.RowKit
set_option linter.unusedSimpArgs false
set_option linter.unusedVariables false

theorem RR.cellA {w : World} {B : Nat} {vs : List Value} {rows : List (List Int)} {g n cap : Nat} (h : RR w B (.slice (some ⟨g, 0, none⟩) n cap) vs rows) (j : Nat) (hj : j < n) : w.cell? ⟨g, j, none⟩ = some (vN vs j) := by
  have hown := h.own
  obtain ⟨a, c, e⟩ := hown.slc
  simp only [Value.slice.injEq] at e
  obtain ⟨rfl, rfl, rfl⟩ := e
  have hl := h.len
  rw [hown.cell j (by omega)]
  simp [vN, show j < vs.length by omega]
set_option maxHeartbeats 2000000 in
theorem wcRows_yes (v1 v2 : Value) (vs1 vs2 : List Value) (R : List (List Int)) (B1 B2 : Nat) (w : World) (h1 : RR w B1 v1 vs1 R) (h2 : RR w B2 v2 vs2 R) (hl : ∀ j, j < R.length → (rN R j).length ≤ 4194304) (hn : R.length ≤ 1048576) :
    Calls Try.prog 17 #[v1, v2] w fun e w' => e = .returned (.bool true) ∧ Below w.heap.size w w' := by
  obtain ⟨a1, c1, rfl⟩ := h1.slc
  obtain ⟨a2, c2, rfl⟩ := h2.slc
  obtain ⟨n, hn0⟩ : ∃ n, R.length = n := ⟨_, rfl⟩
  rw [hn0] at h1 h2 hn hl ⊢
  have HN : Hid (R.length = n) := hn0
  have HL : Hid (∀ j, j < n → (rN R j).length ≤ 4194304) := hl
  have H1 : Hid (RR w B1 (.slice a1 n c1) vs1 R) := h1
  have H2 : Hid (RR w B2 (.slice a2 n c2) vs2 R) := h2
  clear h1 h2 hn0 hl
  go_enter Try.func17, Try.ntmps17
  go_wp2_with fail
  go_loopw [5] (fun i wr => ∃ (m : Nat), m ≤ n ∧ i = .int .i64 m ∧ Hid (Below w.heap.size w wr)) (fun i _ => n - (intOf i).toNat)
  case atStart => exact ⟨0, Nat.zero_le _, rfl, Below.refl _ _⟩
  case round =>
    obtain ⟨m, hm, rfl, hbel⟩ := hrel
    by_cases hlt : m < n
    · have hmi : (m : Int) < (n : Int) := by omega
      obtain ⟨g1, c1', e1, _⟩ := H1.out.own.form1 (by rw [HN.out]; omega)
      simp only [Value.slice.injEq] at e1
      obtain ⟨rfl, hz1, rfl⟩ := e1
      obtain ⟨g2, c2', e2, _⟩ := H2.out.own.form1 (by rw [HN.out]; omega)
      simp only [Value.slice.injEq] at e2
      obtain ⟨rfl, hz2, rfl⟩ := e2
      clear hz1 hz2
      have k1 := (H1.out.below hbel.out).cellA m hlt
      have k2 := (H2.out.below hbel.out).cellA m hlt
      have r1 := (H1.out.below hbel.out).row m (by rw [HN.out]; exact hlt)
      have r2 := (H2.out.below hbel.out).row m (by rw [HN.out]; exact hlt)
      have HEQ : Hid (∀ q, Calls Try.prog 12 #[vN vs1 m, vN vs2 m] (wr.drewN q) fun e w' => e = .returned (.bool true) ∧ ∃ z, w' = wr.drewN z) := fun q => by
        refine (wcInts_any _ _ (rN R m) (rN R m) _ (r1.arg.drewN q) (r2.arg.drewN q) (HL.out m hlt)).mono ?_
        rintro e w' ⟨rfl, z, rfl⟩
        exact ⟨retBool (eqB_self _), q + z, by simp⟩
      have HBB : Hid (∀ z, Below w.heap.size w (wr.drewN z)) := fun z => bstep hbel.out (below_draws wr z)
      clear r1 r2
      go_wp2_with fail
      go_quiet ((go_at_call 12; with_reducible exact HEQ.out _))
      go_wp2_with fail
      go_roundw
      case rel => exact ⟨m + 1, by omega, by go_num, HBB.out _⟩
      case measure => simp only [intOf]; omega
    · have e : m = n := by omega
      subst e
      go_wp2_with fail
      go_ret
      exact ⟨rfl, hbel.out⟩
end Go.Proofs.Ytbeecmcgdlnakaa
