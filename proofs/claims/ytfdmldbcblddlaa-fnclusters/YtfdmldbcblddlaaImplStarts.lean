import Derived.Test.YtfdmldbcblddlaaImplClus
import Derived.Test.YtfdmldbcblddlaaImplStarts1
namespace Go.Proofs.Ytfdmldbcblddlaa
open Go.ChangeShapes Go.WideShapes Go.ChangeAt Go.RowKit
set_option linter.unusedSimpArgs false

set_option maxHeartbeats 1000000 in
theorem specStarts (v : Value) (l : List Int) (w : World) (hv : Arg w v l) (hl : l.length ≤ 4194304) :
    Calls Try.prog 12 #[v] w fun e w' => (∃ v', e = .returned v' ∧ OwnI w' w.heap.size v' (clus l)) ∧ Below w.heap.size w w' := by
  cases hok : okF (fn l) l.length
  · have HC : Hid (clus l = []) := show clus l = [] by simp [clus, hok]
    go_enter Try.func12, Try.ntmps12
    go_wp2_with (go_at_call 38; refine (specOk _ _ _ hv hl).mono ?_; rintro e w' ⟨rfl, rfl⟩)
    go_ret
    exact ⟨⟨_, rfl, by rw [HC.out]; exact own_empty _ _ _ (Nat.le_refl _) rfl⟩, by go_grown⟩
  · have HC : Hid (clus l = starts (fn l) l.length) := show clus l = _ by simp [clus, hok]
    go_enter Try.func12, Try.ntmps12
    go_wp2_with (first | (go_at_call 38; refine (specOk _ _ _ hv hl).mono ?_; rintro e w' ⟨rfl, rfl⟩) | (go_at_call 39; refine (specL2Starts _ _ _ hv hl).mono ?_; rintro e w2 ⟨⟨v', rfl, hown⟩, hbel⟩))
    go_ret
    exact ⟨⟨_, rfl, by rw [HC.out]; exact hown⟩, hbel⟩

end Go.Proofs.Ytfdmldbcblddlaa
