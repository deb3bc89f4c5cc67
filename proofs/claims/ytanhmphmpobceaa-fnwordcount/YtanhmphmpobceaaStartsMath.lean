import Derived.Test.YtanhmphmpobceaaClusMath
import Derived.Test.YtanhmphmpobceaaMem
namespace Go.Proofs.Ytanhmphmpobceaa
open Go.ChangeShapes Go.WideShapes Go.ChangeAt Go.RowKit
set_option linter.unusedSimpArgs false

theorem starts_yes {z : Nat → Int} {k : Nat} (h : begins z k = true) : starts z (k + 1) = starts z k ++ [(k : Int)] := by simp [starts, h]
theorem starts_no {z : Nat → Int} {k : Nat} (h : begins z k = false) : starts z (k + 1) = starts z k := by simp [starts, h]

end Go.Proofs.Ytanhmphmpobceaa
