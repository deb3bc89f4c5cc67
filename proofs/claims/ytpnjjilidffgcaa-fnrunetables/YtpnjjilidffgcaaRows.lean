/-
  No cell of these rows narrows 'for every input' (looked for: loops, veiled, ifaces, maps, wideKeys, modest, calm, conditions, laid).
  DERIVED. THE GIVEN ROWS OF THIS SEAT. 4 by the template 'for every input the law returns true; each argument reads behind the call as it read before'; 0 by the template 'total and deterministic' (their statements: YtpnjjilidffgcaaTotals.lean).
  GIVEN WITH THE SEED: the statements are not yours to turn. If you find one false, say at which input.
  Laid BY PROGRAM, IN A SANDBOX (cutbox-rows.mjs): the forced cells as the released guide's own fill.sh prints them over the translation 37fb9e49fab9a222… (all of the seat's roots in one cut). By AI agents, Wed Nov 11 2026. No macro, syntax, notation, axiom, sorry.
-/
import Derived.Test.YtpnjjilidffgcaaChecked
import GoSem.Claim
import GoSem.ClaimJoined
import GoSem.ClaimMapViews
import Derived.JoinedTies
import Derived.KernelRfl
namespace Go.Proofs.Ytpnjjilidffgcaa
/- THE CELL 'sum', in the pinned program and in every row, IS THE sha256 OF THE DUMP (.gsa) THAT YtpnjjilidffgcaaProg.lean LOADS. Nothing in Lean hashes anything: it is a label: what it is worth is what the hold of that sum in a sandbox is worth. -/
noncomputable def Try.pinned : Pinned := { name := "ytpnjjilidffgcaa", sum := "37fb9e49fab9a222bdab01eeaed6adcb5a9f354646d53b8bd93fbf16361685a3", checked := Try.checked }
namespace Rows
def none {H : Type} : Left H := { results := [], args := [] }

/-- 'laws.FnRuneMirror': WHATEVER THE INPUT: true; the input reads as it did. -/
def fnRuneMirrorSpec : ChangeSpec := { name := "fnRuneMirror", fn := fun _ => fun
  | [d] => { results := [.lit (.bool true)], args := [d] }
  | _ => none }
def fnRuneMirrorRow : OpenClaim := { program := "ytpnjjilidffgcaa", sum := "37fb9e49fab9a222bdab01eeaed6adcb5a9f354646d53b8bd93fbf16361685a3", func := "loop.example/colophon/laws.FnRuneMirror", spec := "fnRuneMirror", apart := false }
def FnRuneMirrorSaid : Prop := fnRuneMirrorRow.holds Try.pinned (OpenSpec.ofChange fnRuneMirrorSpec)

/-- ITS FALSE NEIGHBOUR: 'it returns false'. Refute it at one input. -/
def fnRuneMirrorWrong : ChangeSpec := { name := "fnRuneMirror", fn := fun _ => fun
  | [d] => { results := [.lit (.bool false)], args := [d] }
  | _ => none }
def FnRuneMirrorWrongFalsely : Prop := fnRuneMirrorRow.holds Try.pinned (OpenSpec.ofChange fnRuneMirrorWrong)

/-- 'laws.FnRuneTables': WHATEVER THE INPUT: true; the input reads as it did. -/
def fnRuneTablesSpec : ChangeSpec := { name := "fnRuneTables", fn := fun _ => fun
  | [d] => { results := [.lit (.bool true)], args := [d] }
  | _ => none }
def fnRuneTablesRow : OpenClaim := { program := "ytpnjjilidffgcaa", sum := "37fb9e49fab9a222bdab01eeaed6adcb5a9f354646d53b8bd93fbf16361685a3", func := "loop.example/colophon/laws.FnRuneTables", spec := "fnRuneTables", apart := false }
def FnRuneTablesSaid : Prop := fnRuneTablesRow.holds Try.pinned (OpenSpec.ofChange fnRuneTablesSpec)

/-- ITS FALSE NEIGHBOUR: 'it returns false'. Refute it at one input. -/
def fnRuneTablesWrong : ChangeSpec := { name := "fnRuneTables", fn := fun _ => fun
  | [d] => { results := [.lit (.bool false)], args := [d] }
  | _ => none }
def FnRuneTablesWrongFalsely : Prop := fnRuneTablesRow.holds Try.pinned (OpenSpec.ofChange fnRuneTablesWrong)

/-- 'laws.FnClusters': WHATEVER THE INPUT: true; the input reads as it did. -/
def fnClustersSpec : ChangeSpec := { name := "fnClusters", fn := fun _ => fun
  | [d] => { results := [.lit (.bool true)], args := [d] }
  | _ => none }
def fnClustersRow : OpenClaim := { program := "ytpnjjilidffgcaa", sum := "37fb9e49fab9a222bdab01eeaed6adcb5a9f354646d53b8bd93fbf16361685a3", func := "loop.example/colophon/laws.FnClusters", spec := "fnClusters", apart := false }
def FnClustersSaid : Prop := fnClustersRow.holds Try.pinned (OpenSpec.ofChange fnClustersSpec)

/-- ITS FALSE NEIGHBOUR: 'it returns false'. Refute it at one input. -/
def fnClustersWrong : ChangeSpec := { name := "fnClusters", fn := fun _ => fun
  | [d] => { results := [.lit (.bool false)], args := [d] }
  | _ => none }
def FnClustersWrongFalsely : Prop := fnClustersRow.holds Try.pinned (OpenSpec.ofChange fnClustersWrong)

/-- 'laws.FnClusterCut': WHATEVER THE INPUT: true; the input reads as it did. -/
def fnClusterCutSpec : ChangeSpec := { name := "fnClusterCut", fn := fun _ => fun
  | [d] => { results := [.lit (.bool true)], args := [d] }
  | _ => none }
def fnClusterCutRow : OpenClaim := { program := "ytpnjjilidffgcaa", sum := "37fb9e49fab9a222bdab01eeaed6adcb5a9f354646d53b8bd93fbf16361685a3", func := "loop.example/colophon/laws.FnClusterCut", spec := "fnClusterCut", apart := false }
def FnClusterCutSaid : Prop := fnClusterCutRow.holds Try.pinned (OpenSpec.ofChange fnClusterCutSpec)

/-- ITS FALSE NEIGHBOUR: 'it returns false'. Refute it at one input. -/
def fnClusterCutWrong : ChangeSpec := { name := "fnClusterCut", fn := fun _ => fun
  | [d] => { results := [.lit (.bool false)], args := [d] }
  | _ => none }
def FnClusterCutWrongFalsely : Prop := fnClusterCutRow.holds Try.pinned (OpenSpec.ofChange fnClusterCutWrong)

/- THE SECOND FORM. 'bulk': how many values and letters a reading holds, each counted each time it is reached (what is shared counts as often as it is met; a slice's spare places count too). A statement '..UptoSaid' is the law's where the arguments, and the package variables that the reading takes, are together of bulk at most 1048576: NARROWER than '..Said'. Prove '..Said' where nothing that the law and all that it calls make is longer than what came in: it says more and counts as full. Else prove '..UptoSaid'. A law counts once. -/
mutual
def uptoBulk {H : Type} : DataW H → Nat
  | .lit (.string bytes) => bytes.length + 1
  | .lit _ => 1
  | .nil => 1
  | .ptr d => uptoBulk d + 1
  | .slice elems spare => uptoBulkAll elems + uptoBulkAll spare + 1
  | .agg parts => uptoBulkAll parts + 1
  | .iface _ d => uptoBulk d + 1
  | .map entries => uptoBulkEntries entries + 1
  | .held _ => 1
def uptoBulkAll {H : Type} : List (DataW H) → Nat
  | [] => 0
  | d :: r => uptoBulk d + uptoBulkAll r
def uptoBulkEntries {H : Type} : List (Lit × DataW H) → Nat
  | [] => 0
  | x :: r => uptoBulkEntry x + uptoBulkEntries r
def uptoBulkEntry {H : Type} : Lit × DataW H → Nat
  | (.string bytes, d) => bytes.length + uptoBulk d + 1
  | (_, d) => uptoBulk d + 1
 end
def uptoSmall : (H : Type) → List (DataW H) → Bool := fun _ ds => decide (uptoBulkAll ds ≤ 1048576)
def OpenSpec.upto (s : _root_.Go.ChangeSpec) : _root_.Go.OpenSpec := { _root_.Go.OpenSpec.ofChange s with cond := some uptoSmall }

/-- 'laws.FnRuneMirror', WHERE WHAT IT READS IS OF BULK AT MOST 1048576: true; the input reads as it did. -/
def fnRuneMirrorUptoRow : OpenClaim := { program := "ytpnjjilidffgcaa", sum := "37fb9e49fab9a222bdab01eeaed6adcb5a9f354646d53b8bd93fbf16361685a3", func := "loop.example/colophon/laws.FnRuneMirror", spec := "fnRuneMirror", apart := false, narrowed := true }
def FnRuneMirrorUptoSaid : Prop := fnRuneMirrorUptoRow.holds Try.pinned (OpenSpec.upto fnRuneMirrorSpec)

/-- 'laws.FnRuneTables', WHERE WHAT IT READS IS OF BULK AT MOST 1048576: true; the input reads as it did. -/
def fnRuneTablesUptoRow : OpenClaim := { program := "ytpnjjilidffgcaa", sum := "37fb9e49fab9a222bdab01eeaed6adcb5a9f354646d53b8bd93fbf16361685a3", func := "loop.example/colophon/laws.FnRuneTables", spec := "fnRuneTables", apart := false, narrowed := true }
def FnRuneTablesUptoSaid : Prop := fnRuneTablesUptoRow.holds Try.pinned (OpenSpec.upto fnRuneTablesSpec)

/-- 'laws.FnClusters', WHERE WHAT IT READS IS OF BULK AT MOST 1048576: true; the input reads as it did. -/
def fnClustersUptoRow : OpenClaim := { program := "ytpnjjilidffgcaa", sum := "37fb9e49fab9a222bdab01eeaed6adcb5a9f354646d53b8bd93fbf16361685a3", func := "loop.example/colophon/laws.FnClusters", spec := "fnClusters", apart := false, narrowed := true }
def FnClustersUptoSaid : Prop := fnClustersUptoRow.holds Try.pinned (OpenSpec.upto fnClustersSpec)

/-- 'laws.FnClusterCut', WHERE WHAT IT READS IS OF BULK AT MOST 1048576: true; the input reads as it did. -/
def fnClusterCutUptoRow : OpenClaim := { program := "ytpnjjilidffgcaa", sum := "37fb9e49fab9a222bdab01eeaed6adcb5a9f354646d53b8bd93fbf16361685a3", func := "loop.example/colophon/laws.FnClusterCut", spec := "fnClusterCut", apart := false, narrowed := true }
def FnClusterCutUptoSaid : Prop := fnClusterCutUptoRow.holds Try.pinned (OpenSpec.upto fnClusterCutSpec)

end Rows
end Go.Proofs.Ytpnjjilidffgcaa
