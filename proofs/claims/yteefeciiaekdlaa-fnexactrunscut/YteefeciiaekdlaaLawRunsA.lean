import Derived.Test.YteefeciiaekdlaaRunTop
import Derived.Test.YteefeciiaekdlaaRunAid
namespace Go.Proofs.Yteefeciiaekdlaa
open Go.ChangeShapes Go.WideShapes Go.ChangeAt Go.RowKit
set_option linter.unusedSimpArgs false

theorem OwnR.beside {w w' : World} {v u : Value} {l : List Int} {B n : Nat} (h : OwnR w B v n l) (hg : w.grownBy w' u.ownBlock) (hne : ∀ k, v.ownBlock = some k → u.ownBlock ≠ some k) : OwnR w' B v n l :=
  h.kept fun k hk => hg.block k (h.lt k hk).2 (fun e => hne k hk e.symm)
end Go.Proofs.Yteefeciiaekdlaa
