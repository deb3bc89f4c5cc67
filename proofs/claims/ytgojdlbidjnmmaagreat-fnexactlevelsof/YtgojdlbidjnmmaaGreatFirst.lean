import Derived.Test.YtgojdlbidjnmmaaGreatBidiD
import Derived.Laws.Tables
namespace Go.Proofs.YtgojdlbidjnmmaaGreat
open Go.ChangeShapes Go.WideShapes Go.ChangeAt Go.RowKit
set_option linter.unusedSimpArgs false

set_option maxHeartbeats 1000000 in
theorem first_any (b : Nat) (L : Nat → Int) (n : Nat) (hn : n ≤ 100) (r : Int) (w : World) (hs : Hid (∀ i j, i ≤ j → j < n → L i ≤ L j)) (hc : Hid (∀ m, m < n → w.cell? ⟨b, m * 3 + 1, none⟩ = some (.int .i64 (L m)))) :
    Calls Tryz.prog 134 #[.slice (some ⟨b, 0, none⟩) n n, .int .i64 r] w fun e w' => (∃ k : Nat, e = .returned (.int .i64 k) ∧ k ≤ n ∧ Hid ((∀ j, j < k → L j < r) ∧ (k < n → r ≤ L k))) ∧ w' = w := by
  go_enter Tryz.func134, Tryz.ntmps134
  go_wp2
  go_loop [5, 6] (fun lo hi => ∃ l h : Nat, l ≤ h ∧ h ≤ n ∧ lo = .int .i64 l ∧ hi = .int .i64 h ∧ Hid ((∀ j, j < l → L j < r) ∧ (h < n → r ≤ L h))) (fun lo hi => (intOf hi).toNat - (intOf lo).toNat)
  case atStart => exact ⟨0, n, Nat.zero_le _, Nat.le_refl _, rfl, rfl, ⟨by omega, by omega⟩⟩
  case round =>
    obtain ⟨l, h, hlh, hh, rfl, rfl, hb⟩ := hrel
    by_cases hlt : l < h
    · have hcell : w.cell? ⟨b, (l + h) / 2 * 3 + 1, none⟩ = some (.int .i64 (L ((l + h) / 2))) := hc.out _ (by omega)
      by_cases hq : L ((l + h) / 2) < r
      · go_wp2
        go_round
        case rel =>
          refine ⟨(l + h) / 2 + 1, h, by omega, hh, by go_num, rfl, ?_⟩
          refine ⟨fun j hj => ?_, hb.out.2⟩
          have := hs.out j ((l + h) / 2) (by omega) (by omega)
          omega
        case measure => simp only [intOf]; omega
      · go_wp2
        go_round
        case rel =>
          refine ⟨l, (l + h) / 2, by omega, by omega, rfl, by go_num, ?_⟩
          exact ⟨hb.out.1, fun _ => by omega⟩
        case measure => simp only [intOf]; omega
    · go_wp2
      go_ret
      have e : l = h := by omega
      subst e
      exact ⟨⟨l, rfl, hh, hb⟩, rfl⟩
end Go.Proofs.YtgojdlbidjnmmaaGreat
