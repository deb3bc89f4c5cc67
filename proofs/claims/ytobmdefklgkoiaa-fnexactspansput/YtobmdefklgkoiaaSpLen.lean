import Derived.Test.YtobmdefklgkoiaaSpPI
import Derived.Test.YtobmdefklgkoiaaSpPS
namespace Go.Proofs.Ytobmdefklgkoiaa
set_option linter.unusedSimpArgs false
set_option linter.unusedVariables false

theorem move_len (z : Nat → Int) (n : Nat) (c a k : Int) : (spQ 0 (moveS z n c a k)).length ≤ 1048576 := by
  unfold moveS
  split
  · rename_i h
    unfold moveOk at h
    rw [Bool.and_eq_true, decide_eq_true_eq] at h
    have h1 := spQ_short 0 (moveRuns (looksR z n c) a.toNat k c.toNat)
    have h2 := norm_short (norm_move (looksR z n c) a.toNat k c.toNat)
    have h3 := move_cnt (O := looksR z n c) (a := a.toNat) (k := k) (c := c.toNat)
    have h4 := looks_short h.1
    have := (spansOk_out h.1).1
    omega
  · simp [spQ]
theorem put_len (z : Nat → Int) (n : Nat) (c f t s m : Int) : (spQ 0 (putS z n c f t s m)).length ≤ 1048576 := by
  unfold putS
  split
  · rename_i h
    unfold putB at h
    rw [Bool.and_eq_true, Bool.and_eq_true, decide_eq_true_eq] at h
    omega
  · simp [spQ]
end Go.Proofs.Ytobmdefklgkoiaa
