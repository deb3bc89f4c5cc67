/-
  No cell of these rows narrows 'for every input' (looked for: loops, veiled, ifaces, maps, wideKeys, modest, calm, conditions, laid).
  DERIVED. THE GIVEN ROWS OF THIS SEAT. 6 by the template 'for every input the law returns true; each argument reads behind the call as it read before'; 0 by the template 'total and deterministic' (their statements: YtgojdlbidjnmmaaGreatTotals.lean).
  GIVEN WITH THE SEED: the statements are not yours to turn. If you find one false, say at which input.
  Laid BY PROGRAM, IN A SANDBOX (cutbox-rows.mjs): the forced cells as the released guide's own fill.sh prints them over the translation 9b99e0825879694e… (all of the seat's roots in one cut). By AI agents, Wed Nov 11 2026. No macro, syntax, notation, axiom, sorry.
-/
import Derived.Test.YtgojdlbidjnmmaaGreatChecked
import GoSem.Claim
import GoSem.ClaimJoined
import GoSem.ClaimMapViews
import Derived.JoinedTies
import Derived.KernelRfl
namespace Go.Proofs.YtgojdlbidjnmmaaGreat
/- THE CELL 'sum', in the pinned program and in every row, IS THE sha256 OF THE DUMP (.gsa) THAT YtgojdlbidjnmmaaGreatProg.lean LOADS. Nothing in Lean hashes anything: it is a label: what it is worth is what the hold of that sum in a sandbox is worth. -/
noncomputable def Tryz.pinned : Pinned := { name := "ytgojdlbidjnmmaagreat", sum := "9b99e0825879694e303db9e7a13a852ef57631e8efd080fb4f98326fedc38e7c", checked := Tryz.checked }
namespace Rows
def none {H : Type} : Left H := { results := [], args := [] }

/-- 'laws.FnLevelsPlain': WHATEVER THE INPUT: true; the input reads as it did. -/
def fnLevelsPlainSpec : ChangeSpec := { name := "fnLevelsPlain", fn := fun _ => fun
  | [d] => { results := [.lit (.bool true)], args := [d] }
  | _ => none }
def fnLevelsPlainRow : OpenClaim := { program := "ytgojdlbidjnmmaagreat", sum := "9b99e0825879694e303db9e7a13a852ef57631e8efd080fb4f98326fedc38e7c", func := "loop.example/colophon/laws.FnLevelsPlain", spec := "fnLevelsPlain", unfollowed := true, recurses := true, apart := false }
def FnLevelsPlainSaid : Prop := fnLevelsPlainRow.holds Tryz.pinned (OpenSpec.ofChange fnLevelsPlainSpec)

/-- ITS FALSE NEIGHBOUR: 'it returns false'. Refute it at one input. -/
def fnLevelsPlainWrong : ChangeSpec := { name := "fnLevelsPlain", fn := fun _ => fun
  | [d] => { results := [.lit (.bool false)], args := [d] }
  | _ => none }
def FnLevelsPlainWrongFalsely : Prop := fnLevelsPlainRow.holds Tryz.pinned (OpenSpec.ofChange fnLevelsPlainWrong)

/-- 'laws.FnLevelsSide': WHATEVER THE INPUT: true; the input reads as it did. -/
def fnLevelsSideSpec : ChangeSpec := { name := "fnLevelsSide", fn := fun _ => fun
  | [d] => { results := [.lit (.bool true)], args := [d] }
  | _ => none }
def fnLevelsSideRow : OpenClaim := { program := "ytgojdlbidjnmmaagreat", sum := "9b99e0825879694e303db9e7a13a852ef57631e8efd080fb4f98326fedc38e7c", func := "loop.example/colophon/laws.FnLevelsSide", spec := "fnLevelsSide", unfollowed := true, recurses := true, apart := false }
def FnLevelsSideSaid : Prop := fnLevelsSideRow.holds Tryz.pinned (OpenSpec.ofChange fnLevelsSideSpec)

/-- ITS FALSE NEIGHBOUR: 'it returns false'. Refute it at one input. -/
def fnLevelsSideWrong : ChangeSpec := { name := "fnLevelsSide", fn := fun _ => fun
  | [d] => { results := [.lit (.bool false)], args := [d] }
  | _ => none }
def FnLevelsSideWrongFalsely : Prop := fnLevelsSideRow.holds Tryz.pinned (OpenSpec.ofChange fnLevelsSideWrong)

/-- 'laws.FnLineLevels': WHATEVER THE INPUT: true; the input reads as it did. -/
def fnLineLevelsSpec : ChangeSpec := { name := "fnLineLevels", fn := fun _ => fun
  | [d] => { results := [.lit (.bool true)], args := [d] }
  | _ => none }
def fnLineLevelsRow : OpenClaim := { program := "ytgojdlbidjnmmaagreat", sum := "9b99e0825879694e303db9e7a13a852ef57631e8efd080fb4f98326fedc38e7c", func := "loop.example/colophon/laws.FnLineLevels", spec := "fnLineLevels", unfollowed := true, recurses := true, apart := false }
def FnLineLevelsSaid : Prop := fnLineLevelsRow.holds Tryz.pinned (OpenSpec.ofChange fnLineLevelsSpec)

/-- ITS FALSE NEIGHBOUR: 'it returns false'. Refute it at one input. -/
def fnLineLevelsWrong : ChangeSpec := { name := "fnLineLevels", fn := fun _ => fun
  | [d] => { results := [.lit (.bool false)], args := [d] }
  | _ => none }
def FnLineLevelsWrongFalsely : Prop := fnLineLevelsRow.holds Tryz.pinned (OpenSpec.ofChange fnLineLevelsWrong)

/-- 'laws.FnSeen': WHATEVER THE INPUT: true; the input reads as it did. -/
def fnSeenSpec : ChangeSpec := { name := "fnSeen", fn := fun _ => fun
  | [d] => { results := [.lit (.bool true)], args := [d] }
  | _ => none }
def fnSeenRow : OpenClaim := { program := "ytgojdlbidjnmmaagreat", sum := "9b99e0825879694e303db9e7a13a852ef57631e8efd080fb4f98326fedc38e7c", func := "loop.example/colophon/laws.FnSeen", spec := "fnSeen", unfollowed := true, recurses := true, apart := false }
def FnSeenSaid : Prop := fnSeenRow.holds Tryz.pinned (OpenSpec.ofChange fnSeenSpec)

/-- ITS FALSE NEIGHBOUR: 'it returns false'. Refute it at one input. -/
def fnSeenWrong : ChangeSpec := { name := "fnSeen", fn := fun _ => fun
  | [d] => { results := [.lit (.bool false)], args := [d] }
  | _ => none }
def FnSeenWrongFalsely : Prop := fnSeenRow.holds Tryz.pinned (OpenSpec.ofChange fnSeenWrong)

/-- 'laws.FnExactLevelsOf': WHATEVER THE INPUT: true; the input reads as it did. -/
def fnExactLevelsOfSpec : ChangeSpec := { name := "fnExactLevelsOf", fn := fun _ => fun
  | [d1, d2] => { results := [.lit (.bool true)], args := [d1, d2] }
  | _ => none }
def fnExactLevelsOfRow : OpenClaim := { program := "ytgojdlbidjnmmaagreat", sum := "9b99e0825879694e303db9e7a13a852ef57631e8efd080fb4f98326fedc38e7c", func := "loop.example/colophon/laws.FnExactLevelsOf", spec := "fnExactLevelsOf", unfollowed := true, recurses := true, apart := false }
def FnExactLevelsOfSaid : Prop := fnExactLevelsOfRow.holds Tryz.pinned (OpenSpec.ofChange fnExactLevelsOfSpec)

/-- ITS FALSE NEIGHBOUR: 'it returns false'. Refute it at one input. -/
def fnExactLevelsOfWrong : ChangeSpec := { name := "fnExactLevelsOf", fn := fun _ => fun
  | [d1, d2] => { results := [.lit (.bool false)], args := [d1, d2] }
  | _ => none }
def FnExactLevelsOfWrongFalsely : Prop := fnExactLevelsOfRow.holds Tryz.pinned (OpenSpec.ofChange fnExactLevelsOfWrong)

/-- 'laws.FnExactLineLevels': WHATEVER THE INPUT: true; the input reads as it did. -/
def fnExactLineLevelsSpec : ChangeSpec := { name := "fnExactLineLevels", fn := fun _ => fun
  | [d1, d2, d3, d4] => { results := [.lit (.bool true)], args := [d1, d2, d3, d4] }
  | _ => none }
def fnExactLineLevelsRow : OpenClaim := { program := "ytgojdlbidjnmmaagreat", sum := "9b99e0825879694e303db9e7a13a852ef57631e8efd080fb4f98326fedc38e7c", func := "loop.example/colophon/laws.FnExactLineLevels", spec := "fnExactLineLevels", unfollowed := true, recurses := true, apart := false }
def FnExactLineLevelsSaid : Prop := fnExactLineLevelsRow.holds Tryz.pinned (OpenSpec.ofChange fnExactLineLevelsSpec)

/-- ITS FALSE NEIGHBOUR: 'it returns false'. Refute it at one input. -/
def fnExactLineLevelsWrong : ChangeSpec := { name := "fnExactLineLevels", fn := fun _ => fun
  | [d1, d2, d3, d4] => { results := [.lit (.bool false)], args := [d1, d2, d3, d4] }
  | _ => none }
def FnExactLineLevelsWrongFalsely : Prop := fnExactLineLevelsRow.holds Tryz.pinned (OpenSpec.ofChange fnExactLineLevelsWrong)

/- THE SECOND FORM. 'bulk': how many values and letters a reading holds, each counted each time it is reached (what is shared counts as often as it is met; a slice's spare places count too). A statement '..UptoSaid' is the law's where the arguments, and the package variables that the reading takes, are together of bulk at most 1048576: NARROWER than '..Said'. Prove '..Said' where nothing that the law and all that it calls make is longer than what came in: it says more and counts as full. Else prove '..UptoSaid'. A law counts once. -/
mutual
def uptoBulk {H : Type} : DataW H → Nat
  | .lit (.string bytes) => bytes.length + 1
  | .lit _ => 1
  | .nil => 1
  | .ptr d => uptoBulk d + 1
  | .slice elems spare => uptoBulkAll elems + uptoBulkAll spare + 1
  | .agg parts => uptoBulkAll parts + 1
  | .iface _ d => uptoBulk d + 1
  | .map entries => uptoBulkEntries entries + 1
  | .held _ => 1
def uptoBulkAll {H : Type} : List (DataW H) → Nat
  | [] => 0
  | d :: r => uptoBulk d + uptoBulkAll r
def uptoBulkEntries {H : Type} : List (Lit × DataW H) → Nat
  | [] => 0
  | x :: r => uptoBulkEntry x + uptoBulkEntries r
def uptoBulkEntry {H : Type} : Lit × DataW H → Nat
  | (.string bytes, d) => bytes.length + uptoBulk d + 1
  | (_, d) => uptoBulk d + 1
 end
def uptoSmall : (H : Type) → List (DataW H) → Bool := fun _ ds => decide (uptoBulkAll ds ≤ 1048576)
def OpenSpec.upto (s : _root_.Go.ChangeSpec) : _root_.Go.OpenSpec := { _root_.Go.OpenSpec.ofChange s with cond := some uptoSmall }

/-- 'laws.FnLevelsPlain', WHERE WHAT IT READS IS OF BULK AT MOST 1048576: true; the input reads as it did. -/
def fnLevelsPlainUptoRow : OpenClaim := { program := "ytgojdlbidjnmmaagreat", sum := "9b99e0825879694e303db9e7a13a852ef57631e8efd080fb4f98326fedc38e7c", func := "loop.example/colophon/laws.FnLevelsPlain", spec := "fnLevelsPlain", unfollowed := true, recurses := true, apart := false, narrowed := true }
def FnLevelsPlainUptoSaid : Prop := fnLevelsPlainUptoRow.holds Tryz.pinned (OpenSpec.upto fnLevelsPlainSpec)

/-- 'laws.FnLevelsSide', WHERE WHAT IT READS IS OF BULK AT MOST 1048576: true; the input reads as it did. -/
def fnLevelsSideUptoRow : OpenClaim := { program := "ytgojdlbidjnmmaagreat", sum := "9b99e0825879694e303db9e7a13a852ef57631e8efd080fb4f98326fedc38e7c", func := "loop.example/colophon/laws.FnLevelsSide", spec := "fnLevelsSide", unfollowed := true, recurses := true, apart := false, narrowed := true }
def FnLevelsSideUptoSaid : Prop := fnLevelsSideUptoRow.holds Tryz.pinned (OpenSpec.upto fnLevelsSideSpec)

/-- 'laws.FnLineLevels', WHERE WHAT IT READS IS OF BULK AT MOST 1048576: true; the input reads as it did. -/
def fnLineLevelsUptoRow : OpenClaim := { program := "ytgojdlbidjnmmaagreat", sum := "9b99e0825879694e303db9e7a13a852ef57631e8efd080fb4f98326fedc38e7c", func := "loop.example/colophon/laws.FnLineLevels", spec := "fnLineLevels", unfollowed := true, recurses := true, apart := false, narrowed := true }
def FnLineLevelsUptoSaid : Prop := fnLineLevelsUptoRow.holds Tryz.pinned (OpenSpec.upto fnLineLevelsSpec)

/-- 'laws.FnSeen', WHERE WHAT IT READS IS OF BULK AT MOST 1048576: true; the input reads as it did. -/
def fnSeenUptoRow : OpenClaim := { program := "ytgojdlbidjnmmaagreat", sum := "9b99e0825879694e303db9e7a13a852ef57631e8efd080fb4f98326fedc38e7c", func := "loop.example/colophon/laws.FnSeen", spec := "fnSeen", unfollowed := true, recurses := true, apart := false, narrowed := true }
def FnSeenUptoSaid : Prop := fnSeenUptoRow.holds Tryz.pinned (OpenSpec.upto fnSeenSpec)

/-- 'laws.FnExactLevelsOf', WHERE WHAT IT READS IS OF BULK AT MOST 1048576: true; the input reads as it did. -/
def fnExactLevelsOfUptoRow : OpenClaim := { program := "ytgojdlbidjnmmaagreat", sum := "9b99e0825879694e303db9e7a13a852ef57631e8efd080fb4f98326fedc38e7c", func := "loop.example/colophon/laws.FnExactLevelsOf", spec := "fnExactLevelsOf", unfollowed := true, recurses := true, apart := false, narrowed := true }
def FnExactLevelsOfUptoSaid : Prop := fnExactLevelsOfUptoRow.holds Tryz.pinned (OpenSpec.upto fnExactLevelsOfSpec)

/-- 'laws.FnExactLineLevels', WHERE WHAT IT READS IS OF BULK AT MOST 1048576: true; the input reads as it did. -/
def fnExactLineLevelsUptoRow : OpenClaim := { program := "ytgojdlbidjnmmaagreat", sum := "9b99e0825879694e303db9e7a13a852ef57631e8efd080fb4f98326fedc38e7c", func := "loop.example/colophon/laws.FnExactLineLevels", spec := "fnExactLineLevels", unfollowed := true, recurses := true, apart := false, narrowed := true }
def FnExactLineLevelsUptoSaid : Prop := fnExactLineLevelsUptoRow.holds Tryz.pinned (OpenSpec.upto fnExactLineLevelsSpec)

end Rows
end Go.Proofs.YtgojdlbidjnmmaaGreat
