import Derived.Test.YtobmdefklgkoiaaSpanMath
import Derived.Test.YtobmdefklgkoiaaGrow
import Derived.Deep.QuietTactic
import Derived.BigQuiet
import Derived.BigRegion
namespace Go.Proofs.Ytobmdefklgkoiaa
open Go.ChangeShapes Go.WideShapes Go.ChangeAt Go.RowKit
set_option linter.unusedSimpArgs false
set_option linter.unusedVariables false

set_option maxHeartbeats 1000000 in
theorem wcSpans_same (v1 v2 : Value) (n : Nat) (l : List Int) (w : World) (h1 : ArgS w v1 n l) (h2 : ArgS w v2 n l) (hl : n ≤ 1000) :
    Calls Try.prog 11 #[v1, v2] w fun e w' => e = .returned (.bool true) ∧ Below w.heap.size w w' := by
  obtain ⟨a1, c1, rfl, f1⟩ : ∃ a c, v1 = .slice a n c ∧ (0 < n → ∃ b, a = some ⟨b, 0, none⟩ ∧ b < w.heap.size ∧ ∀ j, j < n * 4 → w.cell? ⟨b, j, none⟩ = some (.int .i64 (fn l j))) := by
    rcases h1 with ⟨a, c, rfl, rfl⟩ | ⟨b, c, rfl, hb, _, _, hat⟩
    · exact ⟨a, c, rfl, fun h => by omega⟩
    · exact ⟨_, c, rfl, fun _ => ⟨b, rfl, hb, hat⟩⟩
  obtain ⟨a2, c2, rfl, f2⟩ : ∃ a c, v2 = .slice a n c ∧ (0 < n → ∃ b, a = some ⟨b, 0, none⟩ ∧ b < w.heap.size ∧ ∀ j, j < n * 4 → w.cell? ⟨b, j, none⟩ = some (.int .i64 (fn l j))) := by
    rcases h2 with ⟨a, c, rfl, rfl⟩ | ⟨b, c, rfl, hb, _, _, hat⟩
    · exact ⟨a, c, rfl, fun h => by omega⟩
    · exact ⟨_, c, rfl, fun _ => ⟨b, rfl, hb, hat⟩⟩
  have F1 : Hid _ := f1
  have F2 : Hid _ := f2
  clear f1 f2 h1 h2
  go_enter Try.func11, Try.ntmps11
  go_wp2_with fail
  go_loopw [5] (fun i wr => ∃ k : Nat, k ≤ n ∧ i = .int .i64 (k : Int) ∧ Below w.heap.size w wr) (fun i _ => n - (intOf i).toNat)
  case atStart => exact ⟨0, Nat.zero_le _, rfl, Below.refl _ _⟩
  case round =>
    obtain ⟨k, hk, rfl, hbel⟩ := hrel
    by_cases hlt : k < n
    · have hki : (k : Int) < (n : Int) := by omega
      obtain ⟨b1, rfl, hb1, g1⟩ := F1.out (by omega)
      obtain ⟨b2, rfl, hb2, g2⟩ := F2.out (by omega)
      have y0 := (hbel.cell (p := ⟨b1, k * 4, none⟩) hb1).trans (g1 _ (by omega))
      have y1 := (hbel.cell (p := ⟨b1, k * 4 + 1, none⟩) hb1).trans (g1 _ (by omega))
      have y2 := (hbel.cell (p := ⟨b1, k * 4 + 2, none⟩) hb1).trans (g1 _ (by omega))
      have y3 := (hbel.cell (p := ⟨b1, k * 4 + 3, none⟩) hb1).trans (g1 _ (by omega))
      have z0 := (hbel.cell (p := ⟨b2, k * 4, none⟩) hb2).trans (g2 _ (by omega))
      have z1 := (hbel.cell (p := ⟨b2, k * 4 + 1, none⟩) hb2).trans (g2 _ (by omega))
      have z2 := (hbel.cell (p := ⟨b2, k * 4 + 2, none⟩) hb2).trans (g2 _ (by omega))
      have z3 := (hbel.cell (p := ⟨b2, k * 4 + 3, none⟩) hb2).trans (g2 _ (by omega))
      have HBE : Hid (Below w.heap.size w wr) := hbel
      clear g1 g2 hbel
      go_wp2_with fail
      go_quiet (fail)
      go_wp2_with fail
      exact ⟨⟨k + 1, hlt, by simp, HBE.out.trans ((below_draws _ _).mono HBE.out.size)⟩, by simp only [intOf]; omega⟩
    · have e : k = n := by omega
      subst e
      go_wp2_with fail
      go_ret
      exact ⟨rfl, hbel⟩
end Go.Proofs.Ytobmdefklgkoiaa
