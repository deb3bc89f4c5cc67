import Derived.Test.YtobmdefklgkoiaaMem
namespace Go.Proofs.Ytobmdefklgkoiaa
open Go.ChangeShapes Go.WideShapes Go.ChangeAt Go.RowKit
set_option linter.unusedSimpArgs false

def marks (k : Int) (n : Nat) : List Int := (List.range n).map fun (j : Nat) => k + (j : Int)
theorem marks_len (k : Int) (n : Nat) : (marks k n).length = n := by simp [marks]
theorem fn_marks {k : Int} {n j : Nat} (h : j < n) : fn (marks k n) j = k + (j : Int) := by simp [fn, marks, h]
end Go.Proofs.Ytobmdefklgkoiaa
