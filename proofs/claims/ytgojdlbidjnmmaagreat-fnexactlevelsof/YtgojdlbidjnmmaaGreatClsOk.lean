import Derived.Test.YtgojdlbidjnmmaaGreatPlainMath
import Derived.Test.YtgojdlbidjnmmaaGreatBidiD
namespace Go.Proofs.YtgojdlbidjnmmaaGreat
open Go.ChangeShapes Go.WideShapes Go.ChangeAt Go.RowKit
set_option linter.unusedSimpArgs false

set_option maxHeartbeats 2000000 in
theorem implCls (v : Value) (l : List Int) (n : Nat) (w : World) (hn : l.length = n) (hv : Arg w v l) (hl : n ≤ 4194304) :
    Calls Tryz.prog 98 #[v] w fun e w' => e = .returned (.bool (clsOk (fn l) n)) ∧ w' = w := by
  rcases hv with ⟨a, cap, rfl, rfl⟩ | ⟨b, off, cap, rfl, hb, hlc, hcm, hat⟩
  · subst hn
    go_enter Tryz.func98, Tryz.ntmps98
    go_wp2
    go_rounds 1
    go_ret
    exact ⟨retBool rfl, rfl⟩
  · rw [hn]
    have HN : Hid _ := hn
    have HA : Hid _ := hat
    clear hn hat hlc
    by_cases h80 : 80 < n
    · have h80' : (80 : Int) < (n : Int) := by omega
      go_enter Tryz.func98, Tryz.ntmps98
      go_wp2
      go_ret
      exact ⟨retBool (clsOk_long h80).symm, rfl⟩
    · go_enter Tryz.func98, Tryz.ntmps98
      go_wp2
      go_loop [10] (fun i => ∃ k : Nat, k ≤ n ∧ i = .int .i64 k ∧ Hid (∀ j, j < k → 1 ≤ fn l j ∧ fn l j ≤ 22)) (fun i => n - (intOf i).toNat)
      case atStart => exact ⟨0, Nat.zero_le _, rfl, fun j hj => by omega⟩
      case round =>
        obtain ⟨k, hk, rfl, hall⟩ := hrel
        by_cases hlt : k < n
        · have hcell : w.cell? ⟨b, off + k, none⟩ = some (.int .i64 (fn l k)) := HA.out k (by rw [HN.out]; exact hlt)
          by_cases q1 : fn l k < 1
          · go_wp2
            go_ret
            exact ⟨retBool (clsOk_no hlt (by omega)).symm, rfl⟩
          · by_cases q2 : 22 < fn l k
            · go_wp2
              go_ret
              exact ⟨retBool (clsOk_no hlt (by omega)).symm, rfl⟩
            · go_wp2
              refine ⟨⟨k + 1, by omega, by go_num, fun j hj => ?_⟩, by simp only [intOf]; omega⟩
              by_cases e : j = k
              · subst e; omega
              · exact hall.out j (by omega)
        · have e : k = n := by omega
          subst e
          go_wp2
          go_ret
          exact ⟨retBool (by rw [clsOk_yes hall.out]; simp; omega), rfl⟩

end Go.Proofs.YtgojdlbidjnmmaaGreat
