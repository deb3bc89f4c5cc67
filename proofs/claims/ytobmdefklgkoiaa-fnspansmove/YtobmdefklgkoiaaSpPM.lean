import Derived.Test.YtobmdefklgkoiaaSpMove
namespace Go.Proofs.Ytobmdefklgkoiaa
set_option linter.unusedSimpArgs false
set_option linter.unusedVariables false

/-- What spans made plain are. -/
def plainS (z : Nat → Int) (n : Nat) (c : Int) : Runs := if spansOk z n c = true then looksR z n c else []
theorem spOk_parts {c f t s m : Int} (h : spOk c f t s m = true) : 0 ≤ f ∧ f < c ∧ f < t ∧ t ≤ c ∧ 1 ≤ s ∧ s ≤ 40 ∧ 0 ≤ m ∧ m ≤ 9 := spOk_iff.1 h
/-- The runs when a look is put over others. -/
def putR (z : Nat → Int) (n : Nat) (c f t s m : Int) : Runs := putRuns (looksR z n c) (s, m) f.toNat t.toNat c.toNat
def putB (z : Nat → Int) (n : Nat) (c f t s m : Int) : Bool := spansOk z n c && (spOk c f t s m && decide ((spQ 0 (putR z n c f t s m)).length ≤ 12))
def putS (z : Nat → Int) (n : Nat) (c f t s m : Int) : Runs := if putB z n c f t s m = true then putR z n c f t s m else []
/-- The runs when letters come in or go. -/
def moveOk (z : Nat → Int) (n : Nat) (c a k : Int) : Bool := spansOk z n c && decide (0 ≤ a ∧ a ≤ c ∧ a - c ≤ k ∧ k ≤ 80 - c)
def moveS (z : Nat → Int) (n : Nat) (c a k : Int) : Runs := if moveOk z n c a k = true then moveRuns (looksR z n c) a.toNat k c.toNat else []
end Go.Proofs.Ytobmdefklgkoiaa
