/-
  No cell of these rows narrows 'for every input' (looked for: loops, veiled, ifaces, maps, wideKeys, modest, calm, conditions, laid).
  DERIVED. THE GIVEN ROWS OF THIS SEAT. 6 by the template 'for every input the law returns true; each argument reads behind the call as it read before'; 0 by the template 'total and deterministic' (their statements: YtfdmldbcblddlaaTotals.lean).
  GIVEN WITH THE SEED: the statements are not yours to turn. If you find one false, say at which input.
  Laid BY PROGRAM, IN A SANDBOX (cutbox-rows.mjs): the forced cells as the released guide's own fill.sh prints them over the translation 726369a959055549… (all of the seat's roots in one cut). By AI agents, Wed Nov 11 2026. No macro, syntax, notation, axiom, sorry.
-/
import Derived.Test.YtfdmldbcblddlaaChecked
import GoSem.Claim
import GoSem.ClaimJoined
import GoSem.ClaimMapViews
import Derived.JoinedTies
import Derived.KernelRfl
namespace Go.Proofs.Ytfdmldbcblddlaa
/- THE CELL 'sum', in the pinned program and in every row, IS THE sha256 OF THE DUMP (.gsa) THAT YtfdmldbcblddlaaProg.lean LOADS. Nothing in Lean hashes anything: it is a label: what it is worth is what the hold of that sum in a sandbox is worth. -/
noncomputable def Try.pinned : Pinned := { name := "ytfdmldbcblddlaa", sum := "726369a95905554973ba043ada5dd040eaf5372d85ac58edc313cef424d9fa43", checked := Try.checked }
namespace Rows
def none {H : Type} : Left H := { results := [], args := [] }

/-- 'laws.FnClusters': WHATEVER THE INPUT: true; the input reads as it did. -/
def fnClustersSpec : ChangeSpec := { name := "fnClusters", fn := fun _ => fun
  | [d] => { results := [.lit (.bool true)], args := [d] }
  | _ => none }
def fnClustersRow : OpenClaim := { program := "ytfdmldbcblddlaa", sum := "726369a95905554973ba043ada5dd040eaf5372d85ac58edc313cef424d9fa43", func := "loop.example/colophon/laws.FnClusters", spec := "fnClusters", apart := false }
def FnClustersSaid : Prop := fnClustersRow.holds Try.pinned (OpenSpec.ofChange fnClustersSpec)

/-- ITS FALSE NEIGHBOUR: 'it returns false'. Refute it at one input. -/
def fnClustersWrong : ChangeSpec := { name := "fnClusters", fn := fun _ => fun
  | [d] => { results := [.lit (.bool false)], args := [d] }
  | _ => none }
def FnClustersWrongFalsely : Prop := fnClustersRow.holds Try.pinned (OpenSpec.ofChange fnClustersWrong)

/-- 'laws.FnClusterCut': WHATEVER THE INPUT: true; the input reads as it did. -/
def fnClusterCutSpec : ChangeSpec := { name := "fnClusterCut", fn := fun _ => fun
  | [d] => { results := [.lit (.bool true)], args := [d] }
  | _ => none }
def fnClusterCutRow : OpenClaim := { program := "ytfdmldbcblddlaa", sum := "726369a95905554973ba043ada5dd040eaf5372d85ac58edc313cef424d9fa43", func := "loop.example/colophon/laws.FnClusterCut", spec := "fnClusterCut", apart := false }
def FnClusterCutSaid : Prop := fnClusterCutRow.holds Try.pinned (OpenSpec.ofChange fnClusterCutSpec)

/-- ITS FALSE NEIGHBOUR: 'it returns false'. Refute it at one input. -/
def fnClusterCutWrong : ChangeSpec := { name := "fnClusterCut", fn := fun _ => fun
  | [d] => { results := [.lit (.bool false)], args := [d] }
  | _ => none }
def FnClusterCutWrongFalsely : Prop := fnClusterCutRow.holds Try.pinned (OpenSpec.ofChange fnClusterCutWrong)

/-- 'laws.FnExactClusterWide': WHATEVER THE INPUT: true; the input reads as it did. -/
def fnExactClusterWideSpec : ChangeSpec := { name := "fnExactClusterWide", fn := fun _ => fun
  | [d1, d2] => { results := [.lit (.bool true)], args := [d1, d2] }
  | _ => none }
def fnExactClusterWideRow : OpenClaim := { program := "ytfdmldbcblddlaa", sum := "726369a95905554973ba043ada5dd040eaf5372d85ac58edc313cef424d9fa43", func := "loop.example/colophon/laws.FnExactClusterWide", spec := "fnExactClusterWide", apart := false }
def FnExactClusterWideSaid : Prop := fnExactClusterWideRow.holds Try.pinned (OpenSpec.ofChange fnExactClusterWideSpec)

/-- ITS FALSE NEIGHBOUR: 'it returns false'. Refute it at one input. -/
def fnExactClusterWideWrong : ChangeSpec := { name := "fnExactClusterWide", fn := fun _ => fun
  | [d1, d2] => { results := [.lit (.bool false)], args := [d1, d2] }
  | _ => none }
def FnExactClusterWideWrongFalsely : Prop := fnExactClusterWideRow.holds Try.pinned (OpenSpec.ofChange fnExactClusterWideWrong)

/-- 'laws.FnExactLevelPlain': WHATEVER THE INPUT: true; the input reads as it did. -/
def fnExactLevelPlainSpec : ChangeSpec := { name := "fnExactLevelPlain", fn := fun _ => fun
  | [d1, d2, d3, d4] => { results := [.lit (.bool true)], args := [d1, d2, d3, d4] }
  | _ => none }
def fnExactLevelPlainRow : OpenClaim := { program := "ytfdmldbcblddlaa", sum := "726369a95905554973ba043ada5dd040eaf5372d85ac58edc313cef424d9fa43", func := "loop.example/colophon/laws.FnExactLevelPlain", spec := "fnExactLevelPlain", apart := false }
def FnExactLevelPlainSaid : Prop := fnExactLevelPlainRow.holds Try.pinned (OpenSpec.ofChange fnExactLevelPlainSpec)

/-- ITS FALSE NEIGHBOUR: 'it returns false'. Refute it at one input. -/
def fnExactLevelPlainWrong : ChangeSpec := { name := "fnExactLevelPlain", fn := fun _ => fun
  | [d1, d2, d3, d4] => { results := [.lit (.bool false)], args := [d1, d2, d3, d4] }
  | _ => none }
def FnExactLevelPlainWrongFalsely : Prop := fnExactLevelPlainRow.holds Try.pinned (OpenSpec.ofChange fnExactLevelPlainWrong)

/-- 'laws.FnExactBreaksOf': WHATEVER THE INPUT: true; the input reads as it did. -/
def fnExactBreaksOfSpec : ChangeSpec := { name := "fnExactBreaksOf", fn := fun _ => fun
  | [d] => { results := [.lit (.bool true)], args := [d] }
  | _ => none }
def fnExactBreaksOfRow : OpenClaim := { program := "ytfdmldbcblddlaa", sum := "726369a95905554973ba043ada5dd040eaf5372d85ac58edc313cef424d9fa43", func := "loop.example/colophon/laws.FnExactBreaksOf", spec := "fnExactBreaksOf", unfollowed := true, recurses := true, apart := false }
def FnExactBreaksOfSaid : Prop := fnExactBreaksOfRow.holds Try.pinned (OpenSpec.ofChange fnExactBreaksOfSpec)

/-- ITS FALSE NEIGHBOUR: 'it returns false'. Refute it at one input. -/
def fnExactBreaksOfWrong : ChangeSpec := { name := "fnExactBreaksOf", fn := fun _ => fun
  | [d] => { results := [.lit (.bool false)], args := [d] }
  | _ => none }
def FnExactBreaksOfWrongFalsely : Prop := fnExactBreaksOfRow.holds Try.pinned (OpenSpec.ofChange fnExactBreaksOfWrong)

/-- 'laws.FnExactSpansOk': WHATEVER THE INPUT: true; the input reads as it did. -/
def fnExactSpansOkSpec : ChangeSpec := { name := "fnExactSpansOk", fn := fun _ => fun
  | [d1, d2] => { results := [.lit (.bool true)], args := [d1, d2] }
  | _ => none }
def fnExactSpansOkRow : OpenClaim := { program := "ytfdmldbcblddlaa", sum := "726369a95905554973ba043ada5dd040eaf5372d85ac58edc313cef424d9fa43", func := "loop.example/colophon/laws.FnExactSpansOk", spec := "fnExactSpansOk", apart := false }
def FnExactSpansOkSaid : Prop := fnExactSpansOkRow.holds Try.pinned (OpenSpec.ofChange fnExactSpansOkSpec)

/-- ITS FALSE NEIGHBOUR: 'it returns false'. Refute it at one input. -/
def fnExactSpansOkWrong : ChangeSpec := { name := "fnExactSpansOk", fn := fun _ => fun
  | [d1, d2] => { results := [.lit (.bool false)], args := [d1, d2] }
  | _ => none }
def FnExactSpansOkWrongFalsely : Prop := fnExactSpansOkRow.holds Try.pinned (OpenSpec.ofChange fnExactSpansOkWrong)

/- THE SECOND FORM. 'bulk': how many values and letters a reading holds, each counted each time it is reached (what is shared counts as often as it is met; a slice's spare places count too). A statement '..UptoSaid' is the law's where the arguments, and the package variables that the reading takes, are together of bulk at most 1048576: NARROWER than '..Said'. Prove '..Said' where nothing that the law and all that it calls make is longer than what came in: it says more and counts as full. Else prove '..UptoSaid'. A law counts once. -/
mutual
def uptoBulk {H : Type} : DataW H → Nat
  | .lit (.string bytes) => bytes.length + 1
  | .lit _ => 1
  | .nil => 1
  | .ptr d => uptoBulk d + 1
  | .slice elems spare => uptoBulkAll elems + uptoBulkAll spare + 1
  | .agg parts => uptoBulkAll parts + 1
  | .iface _ d => uptoBulk d + 1
  | .map entries => uptoBulkEntries entries + 1
  | .held _ => 1
def uptoBulkAll {H : Type} : List (DataW H) → Nat
  | [] => 0
  | d :: r => uptoBulk d + uptoBulkAll r
def uptoBulkEntries {H : Type} : List (Lit × DataW H) → Nat
  | [] => 0
  | x :: r => uptoBulkEntry x + uptoBulkEntries r
def uptoBulkEntry {H : Type} : Lit × DataW H → Nat
  | (.string bytes, d) => bytes.length + uptoBulk d + 1
  | (_, d) => uptoBulk d + 1
 end
def uptoSmall : (H : Type) → List (DataW H) → Bool := fun _ ds => decide (uptoBulkAll ds ≤ 1048576)
def OpenSpec.upto (s : _root_.Go.ChangeSpec) : _root_.Go.OpenSpec := { _root_.Go.OpenSpec.ofChange s with cond := some uptoSmall }

/-- 'laws.FnClusters', WHERE WHAT IT READS IS OF BULK AT MOST 1048576: true; the input reads as it did. -/
def fnClustersUptoRow : OpenClaim := { program := "ytfdmldbcblddlaa", sum := "726369a95905554973ba043ada5dd040eaf5372d85ac58edc313cef424d9fa43", func := "loop.example/colophon/laws.FnClusters", spec := "fnClusters", apart := false, narrowed := true }
def FnClustersUptoSaid : Prop := fnClustersUptoRow.holds Try.pinned (OpenSpec.upto fnClustersSpec)

/-- 'laws.FnClusterCut', WHERE WHAT IT READS IS OF BULK AT MOST 1048576: true; the input reads as it did. -/
def fnClusterCutUptoRow : OpenClaim := { program := "ytfdmldbcblddlaa", sum := "726369a95905554973ba043ada5dd040eaf5372d85ac58edc313cef424d9fa43", func := "loop.example/colophon/laws.FnClusterCut", spec := "fnClusterCut", apart := false, narrowed := true }
def FnClusterCutUptoSaid : Prop := fnClusterCutUptoRow.holds Try.pinned (OpenSpec.upto fnClusterCutSpec)

/-- 'laws.FnExactClusterWide', WHERE WHAT IT READS IS OF BULK AT MOST 1048576: true; the input reads as it did. -/
def fnExactClusterWideUptoRow : OpenClaim := { program := "ytfdmldbcblddlaa", sum := "726369a95905554973ba043ada5dd040eaf5372d85ac58edc313cef424d9fa43", func := "loop.example/colophon/laws.FnExactClusterWide", spec := "fnExactClusterWide", apart := false, narrowed := true }
def FnExactClusterWideUptoSaid : Prop := fnExactClusterWideUptoRow.holds Try.pinned (OpenSpec.upto fnExactClusterWideSpec)

/-- 'laws.FnExactLevelPlain', WHERE WHAT IT READS IS OF BULK AT MOST 1048576: true; the input reads as it did. -/
def fnExactLevelPlainUptoRow : OpenClaim := { program := "ytfdmldbcblddlaa", sum := "726369a95905554973ba043ada5dd040eaf5372d85ac58edc313cef424d9fa43", func := "loop.example/colophon/laws.FnExactLevelPlain", spec := "fnExactLevelPlain", apart := false, narrowed := true }
def FnExactLevelPlainUptoSaid : Prop := fnExactLevelPlainUptoRow.holds Try.pinned (OpenSpec.upto fnExactLevelPlainSpec)

/-- 'laws.FnExactBreaksOf', WHERE WHAT IT READS IS OF BULK AT MOST 1048576: true; the input reads as it did. -/
def fnExactBreaksOfUptoRow : OpenClaim := { program := "ytfdmldbcblddlaa", sum := "726369a95905554973ba043ada5dd040eaf5372d85ac58edc313cef424d9fa43", func := "loop.example/colophon/laws.FnExactBreaksOf", spec := "fnExactBreaksOf", unfollowed := true, recurses := true, apart := false, narrowed := true }
def FnExactBreaksOfUptoSaid : Prop := fnExactBreaksOfUptoRow.holds Try.pinned (OpenSpec.upto fnExactBreaksOfSpec)

/-- 'laws.FnExactSpansOk', WHERE WHAT IT READS IS OF BULK AT MOST 1048576: true; the input reads as it did. -/
def fnExactSpansOkUptoRow : OpenClaim := { program := "ytfdmldbcblddlaa", sum := "726369a95905554973ba043ada5dd040eaf5372d85ac58edc313cef424d9fa43", func := "loop.example/colophon/laws.FnExactSpansOk", spec := "fnExactSpansOk", apart := false, narrowed := true }
def FnExactSpansOkUptoSaid : Prop := fnExactSpansOkUptoRow.holds Try.pinned (OpenSpec.upto fnExactSpansOkSpec)

end Rows
end Go.Proofs.Ytfdmldbcblddlaa
