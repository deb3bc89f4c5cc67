/-
  No cell of these rows narrows 'for every input' (looked for: loops, veiled, ifaces, maps, wideKeys, modest, calm, conditions, laid).
  DERIVED. THE GIVEN ROWS OF THIS SEAT. 6 by the template 'for every input the law returns true; each argument reads behind the call as it read before'; 0 by the template 'total and deterministic' (their statements: YteefeciiaekdlaaTotals.lean).
  GIVEN WITH THE SEED: the statements are not yours to turn. If you find one false, say at which input.
  Laid BY PROGRAM, IN A SANDBOX (cutbox-rows.mjs): the forced cells as the released guide's own fill.sh prints them over the translation 6fb5f1f81a0af455… (all of the seat's roots in one cut). By AI agents, Wed Nov 11 2026. No macro, syntax, notation, axiom, sorry.
-/
import Derived.Test.YteefeciiaekdlaaChecked
import GoSem.Claim
import GoSem.ClaimJoined
import GoSem.ClaimMapViews
import Derived.JoinedTies
import Derived.KernelRfl
namespace Go.Proofs.Yteefeciiaekdlaa
/- THE CELL 'sum', in the pinned program and in every row, IS THE sha256 OF THE DUMP (.gsa) THAT YteefeciiaekdlaaProg.lean LOADS. Nothing in Lean hashes anything: it is a label: what it is worth is what the hold of that sum in a sandbox is worth. -/
noncomputable def Try.pinned : Pinned := { name := "yteefeciiaekdlaa", sum := "6fb5f1f81a0af45544aff7009394d88dc56e19afb5ff4eb7f29c80592c61104c", checked := Try.checked }
namespace Rows
def none {H : Type} : Left H := { results := [], args := [] }

/-- 'laws.FnScripts': WHATEVER THE INPUT: true; the input reads as it did. -/
def fnScriptsSpec : ChangeSpec := { name := "fnScripts", fn := fun _ => fun
  | [d] => { results := [.lit (.bool true)], args := [d] }
  | _ => none }
def fnScriptsRow : OpenClaim := { program := "yteefeciiaekdlaa", sum := "6fb5f1f81a0af45544aff7009394d88dc56e19afb5ff4eb7f29c80592c61104c", func := "loop.example/colophon/laws.FnScripts", spec := "fnScripts", unfollowed := true, recurses := true, apart := false }
def FnScriptsSaid : Prop := fnScriptsRow.holds Try.pinned (OpenSpec.ofChange fnScriptsSpec)

/-- ITS FALSE NEIGHBOUR: 'it returns false'. Refute it at one input. -/
def fnScriptsWrong : ChangeSpec := { name := "fnScripts", fn := fun _ => fun
  | [d] => { results := [.lit (.bool false)], args := [d] }
  | _ => none }
def FnScriptsWrongFalsely : Prop := fnScriptsRow.holds Try.pinned (OpenSpec.ofChange fnScriptsWrong)

/-- 'laws.FnScriptMates': WHATEVER THE INPUT: true; the input reads as it did. -/
def fnScriptMatesSpec : ChangeSpec := { name := "fnScriptMates", fn := fun _ => fun
  | [d] => { results := [.lit (.bool true)], args := [d] }
  | _ => none }
def fnScriptMatesRow : OpenClaim := { program := "yteefeciiaekdlaa", sum := "6fb5f1f81a0af45544aff7009394d88dc56e19afb5ff4eb7f29c80592c61104c", func := "loop.example/colophon/laws.FnScriptMates", spec := "fnScriptMates", unfollowed := true, recurses := true, apart := false }
def FnScriptMatesSaid : Prop := fnScriptMatesRow.holds Try.pinned (OpenSpec.ofChange fnScriptMatesSpec)

/-- ITS FALSE NEIGHBOUR: 'it returns false'. Refute it at one input. -/
def fnScriptMatesWrong : ChangeSpec := { name := "fnScriptMates", fn := fun _ => fun
  | [d] => { results := [.lit (.bool false)], args := [d] }
  | _ => none }
def FnScriptMatesWrongFalsely : Prop := fnScriptMatesRow.holds Try.pinned (OpenSpec.ofChange fnScriptMatesWrong)

/-- 'laws.FnExactRuneScript': WHATEVER THE INPUT: true; the input reads as it did. -/
def fnExactRuneScriptSpec : ChangeSpec := { name := "fnExactRuneScript", fn := fun _ => fun
  | [d] => { results := [.lit (.bool true)], args := [d] }
  | _ => none }
def fnExactRuneScriptRow : OpenClaim := { program := "yteefeciiaekdlaa", sum := "6fb5f1f81a0af45544aff7009394d88dc56e19afb5ff4eb7f29c80592c61104c", func := "loop.example/colophon/laws.FnExactRuneScript", spec := "fnExactRuneScript", apart := false }
def FnExactRuneScriptSaid : Prop := fnExactRuneScriptRow.holds Try.pinned (OpenSpec.ofChange fnExactRuneScriptSpec)

/-- ITS FALSE NEIGHBOUR: 'it returns false'. Refute it at one input. -/
def fnExactRuneScriptWrong : ChangeSpec := { name := "fnExactRuneScript", fn := fun _ => fun
  | [d] => { results := [.lit (.bool false)], args := [d] }
  | _ => none }
def FnExactRuneScriptWrongFalsely : Prop := fnExactRuneScriptRow.holds Try.pinned (OpenSpec.ofChange fnExactRuneScriptWrong)

/-- 'laws.FnExactScriptsOf': WHATEVER THE INPUT: true; the input reads as it did. -/
def fnExactScriptsOfSpec : ChangeSpec := { name := "fnExactScriptsOf", fn := fun _ => fun
  | [d] => { results := [.lit (.bool true)], args := [d] }
  | _ => none }
def fnExactScriptsOfRow : OpenClaim := { program := "yteefeciiaekdlaa", sum := "6fb5f1f81a0af45544aff7009394d88dc56e19afb5ff4eb7f29c80592c61104c", func := "loop.example/colophon/laws.FnExactScriptsOf", spec := "fnExactScriptsOf", unfollowed := true, recurses := true, apart := false }
def FnExactScriptsOfSaid : Prop := fnExactScriptsOfRow.holds Try.pinned (OpenSpec.ofChange fnExactScriptsOfSpec)

/-- ITS FALSE NEIGHBOUR: 'it returns false'. Refute it at one input. -/
def fnExactScriptsOfWrong : ChangeSpec := { name := "fnExactScriptsOf", fn := fun _ => fun
  | [d] => { results := [.lit (.bool false)], args := [d] }
  | _ => none }
def FnExactScriptsOfWrongFalsely : Prop := fnExactScriptsOfRow.holds Try.pinned (OpenSpec.ofChange fnExactScriptsOfWrong)

/-- 'laws.FnExactScriptRuns': WHATEVER THE INPUT: true; the input reads as it did. -/
def fnExactScriptRunsSpec : ChangeSpec := { name := "fnExactScriptRuns", fn := fun _ => fun
  | [d] => { results := [.lit (.bool true)], args := [d] }
  | _ => none }
def fnExactScriptRunsRow : OpenClaim := { program := "yteefeciiaekdlaa", sum := "6fb5f1f81a0af45544aff7009394d88dc56e19afb5ff4eb7f29c80592c61104c", func := "loop.example/colophon/laws.FnExactScriptRuns", spec := "fnExactScriptRuns", unfollowed := true, recurses := true, apart := false }
def FnExactScriptRunsSaid : Prop := fnExactScriptRunsRow.holds Try.pinned (OpenSpec.ofChange fnExactScriptRunsSpec)

/-- ITS FALSE NEIGHBOUR: 'it returns false'. Refute it at one input. -/
def fnExactScriptRunsWrong : ChangeSpec := { name := "fnExactScriptRuns", fn := fun _ => fun
  | [d] => { results := [.lit (.bool false)], args := [d] }
  | _ => none }
def FnExactScriptRunsWrongFalsely : Prop := fnExactScriptRunsRow.holds Try.pinned (OpenSpec.ofChange fnExactScriptRunsWrong)

/-- 'laws.FnExactRunsCut': WHATEVER THE INPUT: true; the input reads as it did. -/
def fnExactRunsCutSpec : ChangeSpec := { name := "fnExactRunsCut", fn := fun _ => fun
  | [d1, d2] => { results := [.lit (.bool true)], args := [d1, d2] }
  | _ => none }
def fnExactRunsCutRow : OpenClaim := { program := "yteefeciiaekdlaa", sum := "6fb5f1f81a0af45544aff7009394d88dc56e19afb5ff4eb7f29c80592c61104c", func := "loop.example/colophon/laws.FnExactRunsCut", spec := "fnExactRunsCut", unfollowed := true, recurses := true, apart := false }
def FnExactRunsCutSaid : Prop := fnExactRunsCutRow.holds Try.pinned (OpenSpec.ofChange fnExactRunsCutSpec)

/-- ITS FALSE NEIGHBOUR: 'it returns false'. Refute it at one input. -/
def fnExactRunsCutWrong : ChangeSpec := { name := "fnExactRunsCut", fn := fun _ => fun
  | [d1, d2] => { results := [.lit (.bool false)], args := [d1, d2] }
  | _ => none }
def FnExactRunsCutWrongFalsely : Prop := fnExactRunsCutRow.holds Try.pinned (OpenSpec.ofChange fnExactRunsCutWrong)

/- THE SECOND FORM. 'bulk': how many values and letters a reading holds, each counted each time it is reached (what is shared counts as often as it is met; a slice's spare places count too). A statement '..UptoSaid' is the law's where the arguments, and the package variables that the reading takes, are together of bulk at most 1048576: NARROWER than '..Said'. Prove '..Said' where nothing that the law and all that it calls make is longer than what came in: it says more and counts as full. Else prove '..UptoSaid'. A law counts once. -/
mutual
def uptoBulk {H : Type} : DataW H → Nat
  | .lit (.string bytes) => bytes.length + 1
  | .lit _ => 1
  | .nil => 1
  | .ptr d => uptoBulk d + 1
  | .slice elems spare => uptoBulkAll elems + uptoBulkAll spare + 1
  | .agg parts => uptoBulkAll parts + 1
  | .iface _ d => uptoBulk d + 1
  | .map entries => uptoBulkEntries entries + 1
  | .held _ => 1
def uptoBulkAll {H : Type} : List (DataW H) → Nat
  | [] => 0
  | d :: r => uptoBulk d + uptoBulkAll r
def uptoBulkEntries {H : Type} : List (Lit × DataW H) → Nat
  | [] => 0
  | x :: r => uptoBulkEntry x + uptoBulkEntries r
def uptoBulkEntry {H : Type} : Lit × DataW H → Nat
  | (.string bytes, d) => bytes.length + uptoBulk d + 1
  | (_, d) => uptoBulk d + 1
 end
def uptoSmall : (H : Type) → List (DataW H) → Bool := fun _ ds => decide (uptoBulkAll ds ≤ 1048576)
def OpenSpec.upto (s : _root_.Go.ChangeSpec) : _root_.Go.OpenSpec := { _root_.Go.OpenSpec.ofChange s with cond := some uptoSmall }

/-- 'laws.FnScripts', WHERE WHAT IT READS IS OF BULK AT MOST 1048576: true; the input reads as it did. -/
def fnScriptsUptoRow : OpenClaim := { program := "yteefeciiaekdlaa", sum := "6fb5f1f81a0af45544aff7009394d88dc56e19afb5ff4eb7f29c80592c61104c", func := "loop.example/colophon/laws.FnScripts", spec := "fnScripts", unfollowed := true, recurses := true, apart := false, narrowed := true }
def FnScriptsUptoSaid : Prop := fnScriptsUptoRow.holds Try.pinned (OpenSpec.upto fnScriptsSpec)

/-- 'laws.FnScriptMates', WHERE WHAT IT READS IS OF BULK AT MOST 1048576: true; the input reads as it did. -/
def fnScriptMatesUptoRow : OpenClaim := { program := "yteefeciiaekdlaa", sum := "6fb5f1f81a0af45544aff7009394d88dc56e19afb5ff4eb7f29c80592c61104c", func := "loop.example/colophon/laws.FnScriptMates", spec := "fnScriptMates", unfollowed := true, recurses := true, apart := false, narrowed := true }
def FnScriptMatesUptoSaid : Prop := fnScriptMatesUptoRow.holds Try.pinned (OpenSpec.upto fnScriptMatesSpec)

/-- 'laws.FnExactRuneScript', WHERE WHAT IT READS IS OF BULK AT MOST 1048576: true; the input reads as it did. -/
def fnExactRuneScriptUptoRow : OpenClaim := { program := "yteefeciiaekdlaa", sum := "6fb5f1f81a0af45544aff7009394d88dc56e19afb5ff4eb7f29c80592c61104c", func := "loop.example/colophon/laws.FnExactRuneScript", spec := "fnExactRuneScript", apart := false, narrowed := true }
def FnExactRuneScriptUptoSaid : Prop := fnExactRuneScriptUptoRow.holds Try.pinned (OpenSpec.upto fnExactRuneScriptSpec)

/-- 'laws.FnExactScriptsOf', WHERE WHAT IT READS IS OF BULK AT MOST 1048576: true; the input reads as it did. -/
def fnExactScriptsOfUptoRow : OpenClaim := { program := "yteefeciiaekdlaa", sum := "6fb5f1f81a0af45544aff7009394d88dc56e19afb5ff4eb7f29c80592c61104c", func := "loop.example/colophon/laws.FnExactScriptsOf", spec := "fnExactScriptsOf", unfollowed := true, recurses := true, apart := false, narrowed := true }
def FnExactScriptsOfUptoSaid : Prop := fnExactScriptsOfUptoRow.holds Try.pinned (OpenSpec.upto fnExactScriptsOfSpec)

/-- 'laws.FnExactScriptRuns', WHERE WHAT IT READS IS OF BULK AT MOST 1048576: true; the input reads as it did. -/
def fnExactScriptRunsUptoRow : OpenClaim := { program := "yteefeciiaekdlaa", sum := "6fb5f1f81a0af45544aff7009394d88dc56e19afb5ff4eb7f29c80592c61104c", func := "loop.example/colophon/laws.FnExactScriptRuns", spec := "fnExactScriptRuns", unfollowed := true, recurses := true, apart := false, narrowed := true }
def FnExactScriptRunsUptoSaid : Prop := fnExactScriptRunsUptoRow.holds Try.pinned (OpenSpec.upto fnExactScriptRunsSpec)

/-- 'laws.FnExactRunsCut', WHERE WHAT IT READS IS OF BULK AT MOST 1048576: true; the input reads as it did. -/
def fnExactRunsCutUptoRow : OpenClaim := { program := "yteefeciiaekdlaa", sum := "6fb5f1f81a0af45544aff7009394d88dc56e19afb5ff4eb7f29c80592c61104c", func := "loop.example/colophon/laws.FnExactRunsCut", spec := "fnExactRunsCut", unfollowed := true, recurses := true, apart := false, narrowed := true }
def FnExactRunsCutUptoSaid : Prop := fnExactRunsCutUptoRow.holds Try.pinned (OpenSpec.upto fnExactRunsCutSpec)

end Rows
end Go.Proofs.Yteefeciiaekdlaa
