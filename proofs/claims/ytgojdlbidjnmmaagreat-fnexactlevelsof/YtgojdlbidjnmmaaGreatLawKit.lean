import Derived.Test.YtgojdlbidjnmmaaGreatLawMark
import Derived.Test.YtgojdlbidjnmmaaGreatAppend
namespace Go.Proofs.YtgojdlbidjnmmaaGreat
open Go.ChangeShapes Go.WideShapes Go.ChangeAt Go.RowKit
set_option linter.unusedSimpArgs false

theorem eqI_yes (v1 v2 : Value) (l : List Int) (w : World) (h1 : Arg w v1 l) (h2 : Arg w v2 l) (hl : l.length ≤ 4194304) :
    Calls Tryz.prog 25 #[v1, v2] w fun e w' => e = .returned (.bool true) ∧ Below w.heap.size w w' := by
  refine (eqInt_any v1 v2 l l w h1 h2 hl).mono ?_
  rintro e w' ⟨rfl, n, rfl⟩
  exact ⟨retBool (eqB_self l), below_draws w n⟩
/-- A row keeps what it holds where another row is marked. -/
theorem OwnI.aside {w w' : World} {v u : Value} {l : List Int} {B : Nat} (h : OwnI w B v l) (hg : w.grownBy w' u.ownBlock) (hne : ∀ k, v.ownBlock = some k → u.ownBlock ≠ some k) : OwnI w' B v l :=
  h.kept fun k hk => hg.block k (h.lt k hk).2 (fun e => hne k hk e.symm)
theorem heldB_any (v : Value) (n : Nat) (k : Int) (w : World) (hv : Arg w v (marks k n)) (hl : n ≤ 1048576) (hk0 : 0 ≤ k) (hk1 : k ≤ 1000000000000) :
    Calls Tryz.prog 27 #[v, .int .i64 k] w fun e w' => e = .returned (.int .i64 (k + (n : Int))) ∧ Below w.heap.size w w' :=
  (held_any v n k w hv hl hk0 hk1).mono fun _ _ ⟨h1, h2⟩ => ⟨h1, by rw [h2]; exact Below.refl _ _⟩
end Go.Proofs.YtgojdlbidjnmmaaGreat
