/-
  No cell of these rows narrows 'for every input' (looked for: loops, veiled, ifaces, maps, wideKeys, modest, calm, conditions, laid).
  DERIVED. THE GIVEN ROWS OF THIS SEAT. 6 by the template 'for every input the law returns true; each argument reads behind the call as it read before'; 0 by the template 'total and deterministic' (their statements: YtbjcdogbhnadkaqTotals.lean).
  GIVEN WITH THE SEED: the statements are not yours to turn. If you find one false, say at which input.
  Laid BY PROGRAM, IN A SANDBOX (cutbox-rows.mjs): the forced cells as the released guide's own fill.sh prints them over the translation 02ee323c3e0a69cb… (all of the seat's roots in one cut). By AI agents, Wed Nov 11 2026. No macro, syntax, notation, axiom, sorry.
-/
import Derived.Test.YtbjcdogbhnadkaqChecked
import GoSem.Claim
import GoSem.ClaimJoined
import GoSem.ClaimMapViews
import Derived.JoinedTies
import Derived.KernelRfl
namespace Go.Proofs.Ytbjcdogbhnadkaq
/- THE CELL 'sum', in the pinned program and in every row, IS THE sha256 OF THE DUMP (.gsa) THAT YtbjcdogbhnadkaqProg.lean LOADS. Nothing in Lean hashes anything: it is a label: what it is worth is what the hold of that sum in a sandbox is worth. -/
noncomputable def Try.pinned : Pinned := { name := "ytbjcdogbhnadkaq", sum := "02ee323c3e0a69cb48740ab57ff91d1ceab8c9510eda63630261241b60bf0f6b", checked := Try.checked }
namespace Rows
def none {H : Type} : Left H := { results := [], args := [] }

/-- 'laws.FnExactRuneMirror': WHATEVER THE INPUT: true; the input reads as it did. -/
def fnExactRuneMirrorSpec : ChangeSpec := { name := "fnExactRuneMirror", fn := fun _ => fun
  | [d] => { results := [.lit (.bool true)], args := [d] }
  | _ => none }
def fnExactRuneMirrorRow : OpenClaim := { program := "ytbjcdogbhnadkaq", sum := "02ee323c3e0a69cb48740ab57ff91d1ceab8c9510eda63630261241b60bf0f6b", func := "loop.example/colophon/laws.FnExactRuneMirror", spec := "fnExactRuneMirror", apart := false }
def FnExactRuneMirrorSaid : Prop := fnExactRuneMirrorRow.holds Try.pinned (OpenSpec.ofChange fnExactRuneMirrorSpec)

/-- ITS FALSE NEIGHBOUR: 'it returns false'. Refute it at one input. -/
def fnExactRuneMirrorWrong : ChangeSpec := { name := "fnExactRuneMirror", fn := fun _ => fun
  | [d] => { results := [.lit (.bool false)], args := [d] }
  | _ => none }
def FnExactRuneMirrorWrongFalsely : Prop := fnExactRuneMirrorRow.holds Try.pinned (OpenSpec.ofChange fnExactRuneMirrorWrong)

/-- 'laws.FnExactRuneMate': WHATEVER THE INPUT: true; the input reads as it did. -/
def fnExactRuneMateSpec : ChangeSpec := { name := "fnExactRuneMate", fn := fun _ => fun
  | [d] => { results := [.lit (.bool true)], args := [d] }
  | _ => none }
def fnExactRuneMateRow : OpenClaim := { program := "ytbjcdogbhnadkaq", sum := "02ee323c3e0a69cb48740ab57ff91d1ceab8c9510eda63630261241b60bf0f6b", func := "loop.example/colophon/laws.FnExactRuneMate", spec := "fnExactRuneMate", apart := false }
def FnExactRuneMateSaid : Prop := fnExactRuneMateRow.holds Try.pinned (OpenSpec.ofChange fnExactRuneMateSpec)

/-- ITS FALSE NEIGHBOUR: 'it returns false'. Refute it at one input. -/
def fnExactRuneMateWrong : ChangeSpec := { name := "fnExactRuneMate", fn := fun _ => fun
  | [d] => { results := [.lit (.bool false)], args := [d] }
  | _ => none }
def FnExactRuneMateWrongFalsely : Prop := fnExactRuneMateRow.holds Try.pinned (OpenSpec.ofChange fnExactRuneMateWrong)

/-- 'laws.FnExactClusterStarts': WHATEVER THE INPUT: true; the input reads as it did. -/
def fnExactClusterStartsSpec : ChangeSpec := { name := "fnExactClusterStarts", fn := fun _ => fun
  | [d] => { results := [.lit (.bool true)], args := [d] }
  | _ => none }
def fnExactClusterStartsRow : OpenClaim := { program := "ytbjcdogbhnadkaq", sum := "02ee323c3e0a69cb48740ab57ff91d1ceab8c9510eda63630261241b60bf0f6b", func := "loop.example/colophon/laws.FnExactClusterStarts", spec := "fnExactClusterStarts", apart := false }
def FnExactClusterStartsSaid : Prop := fnExactClusterStartsRow.holds Try.pinned (OpenSpec.ofChange fnExactClusterStartsSpec)

/-- ITS FALSE NEIGHBOUR: 'it returns false'. Refute it at one input. -/
def fnExactClusterStartsWrong : ChangeSpec := { name := "fnExactClusterStarts", fn := fun _ => fun
  | [d] => { results := [.lit (.bool false)], args := [d] }
  | _ => none }
def FnExactClusterStartsWrongFalsely : Prop := fnExactClusterStartsRow.holds Try.pinned (OpenSpec.ofChange fnExactClusterStartsWrong)

/-- 'laws.FnExactClusterAt': WHATEVER THE INPUT: true; the input reads as it did. -/
def fnExactClusterAtSpec : ChangeSpec := { name := "fnExactClusterAt", fn := fun _ => fun
  | [d1, d2] => { results := [.lit (.bool true)], args := [d1, d2] }
  | _ => none }
def fnExactClusterAtRow : OpenClaim := { program := "ytbjcdogbhnadkaq", sum := "02ee323c3e0a69cb48740ab57ff91d1ceab8c9510eda63630261241b60bf0f6b", func := "loop.example/colophon/laws.FnExactClusterAt", spec := "fnExactClusterAt", apart := false }
def FnExactClusterAtSaid : Prop := fnExactClusterAtRow.holds Try.pinned (OpenSpec.ofChange fnExactClusterAtSpec)

/-- ITS FALSE NEIGHBOUR: 'it returns false'. Refute it at one input. -/
def fnExactClusterAtWrong : ChangeSpec := { name := "fnExactClusterAt", fn := fun _ => fun
  | [d1, d2] => { results := [.lit (.bool false)], args := [d1, d2] }
  | _ => none }
def FnExactClusterAtWrongFalsely : Prop := fnExactClusterAtRow.holds Try.pinned (OpenSpec.ofChange fnExactClusterAtWrong)

/-- 'laws.FnExactClusterWide': WHATEVER THE INPUT: true; the input reads as it did. -/
def fnExactClusterWideSpec : ChangeSpec := { name := "fnExactClusterWide", fn := fun _ => fun
  | [d1, d2] => { results := [.lit (.bool true)], args := [d1, d2] }
  | _ => none }
def fnExactClusterWideRow : OpenClaim := { program := "ytbjcdogbhnadkaq", sum := "02ee323c3e0a69cb48740ab57ff91d1ceab8c9510eda63630261241b60bf0f6b", func := "loop.example/colophon/laws.FnExactClusterWide", spec := "fnExactClusterWide", apart := false }
def FnExactClusterWideSaid : Prop := fnExactClusterWideRow.holds Try.pinned (OpenSpec.ofChange fnExactClusterWideSpec)

/-- ITS FALSE NEIGHBOUR: 'it returns false'. Refute it at one input. -/
def fnExactClusterWideWrong : ChangeSpec := { name := "fnExactClusterWide", fn := fun _ => fun
  | [d1, d2] => { results := [.lit (.bool false)], args := [d1, d2] }
  | _ => none }
def FnExactClusterWideWrongFalsely : Prop := fnExactClusterWideRow.holds Try.pinned (OpenSpec.ofChange fnExactClusterWideWrong)

/-- 'laws.FnExactLevelBase': WHATEVER THE INPUT: true; the input reads as it did. -/
def fnExactLevelBaseSpec : ChangeSpec := { name := "fnExactLevelBase", fn := fun _ => fun
  | [d] => { results := [.lit (.bool true)], args := [d] }
  | _ => none }
def fnExactLevelBaseRow : OpenClaim := { program := "ytbjcdogbhnadkaq", sum := "02ee323c3e0a69cb48740ab57ff91d1ceab8c9510eda63630261241b60bf0f6b", func := "loop.example/colophon/laws.FnExactLevelBase", spec := "fnExactLevelBase", apart := false }
def FnExactLevelBaseSaid : Prop := fnExactLevelBaseRow.holds Try.pinned (OpenSpec.ofChange fnExactLevelBaseSpec)

/-- ITS FALSE NEIGHBOUR: 'it returns false'. Refute it at one input. -/
def fnExactLevelBaseWrong : ChangeSpec := { name := "fnExactLevelBase", fn := fun _ => fun
  | [d] => { results := [.lit (.bool false)], args := [d] }
  | _ => none }
def FnExactLevelBaseWrongFalsely : Prop := fnExactLevelBaseRow.holds Try.pinned (OpenSpec.ofChange fnExactLevelBaseWrong)

/- THE SECOND FORM. 'bulk': how many values and letters a reading holds, each counted each time it is reached (what is shared counts as often as it is met; a slice's spare places count too). A statement '..UptoSaid' is the law's where the arguments, and the package variables that the reading takes, are together of bulk at most 1048576: NARROWER than '..Said'. Prove '..Said' where nothing that the law and all that it calls make is longer than what came in: it says more and counts as full. Else prove '..UptoSaid'. A law counts once. -/
mutual
def uptoBulk {H : Type} : DataW H → Nat
  | .lit (.string bytes) => bytes.length + 1
  | .lit _ => 1
  | .nil => 1
  | .ptr d => uptoBulk d + 1
  | .slice elems spare => uptoBulkAll elems + uptoBulkAll spare + 1
  | .agg parts => uptoBulkAll parts + 1
  | .iface _ d => uptoBulk d + 1
  | .map entries => uptoBulkEntries entries + 1
  | .held _ => 1
def uptoBulkAll {H : Type} : List (DataW H) → Nat
  | [] => 0
  | d :: r => uptoBulk d + uptoBulkAll r
def uptoBulkEntries {H : Type} : List (Lit × DataW H) → Nat
  | [] => 0
  | x :: r => uptoBulkEntry x + uptoBulkEntries r
def uptoBulkEntry {H : Type} : Lit × DataW H → Nat
  | (.string bytes, d) => bytes.length + uptoBulk d + 1
  | (_, d) => uptoBulk d + 1
 end
def uptoSmall : (H : Type) → List (DataW H) → Bool := fun _ ds => decide (uptoBulkAll ds ≤ 1048576)
def OpenSpec.upto (s : _root_.Go.ChangeSpec) : _root_.Go.OpenSpec := { _root_.Go.OpenSpec.ofChange s with cond := some uptoSmall }

/-- 'laws.FnExactRuneMirror', WHERE WHAT IT READS IS OF BULK AT MOST 1048576: true; the input reads as it did. -/
def fnExactRuneMirrorUptoRow : OpenClaim := { program := "ytbjcdogbhnadkaq", sum := "02ee323c3e0a69cb48740ab57ff91d1ceab8c9510eda63630261241b60bf0f6b", func := "loop.example/colophon/laws.FnExactRuneMirror", spec := "fnExactRuneMirror", apart := false, narrowed := true }
def FnExactRuneMirrorUptoSaid : Prop := fnExactRuneMirrorUptoRow.holds Try.pinned (OpenSpec.upto fnExactRuneMirrorSpec)

/-- 'laws.FnExactRuneMate', WHERE WHAT IT READS IS OF BULK AT MOST 1048576: true; the input reads as it did. -/
def fnExactRuneMateUptoRow : OpenClaim := { program := "ytbjcdogbhnadkaq", sum := "02ee323c3e0a69cb48740ab57ff91d1ceab8c9510eda63630261241b60bf0f6b", func := "loop.example/colophon/laws.FnExactRuneMate", spec := "fnExactRuneMate", apart := false, narrowed := true }
def FnExactRuneMateUptoSaid : Prop := fnExactRuneMateUptoRow.holds Try.pinned (OpenSpec.upto fnExactRuneMateSpec)

/-- 'laws.FnExactClusterStarts', WHERE WHAT IT READS IS OF BULK AT MOST 1048576: true; the input reads as it did. -/
def fnExactClusterStartsUptoRow : OpenClaim := { program := "ytbjcdogbhnadkaq", sum := "02ee323c3e0a69cb48740ab57ff91d1ceab8c9510eda63630261241b60bf0f6b", func := "loop.example/colophon/laws.FnExactClusterStarts", spec := "fnExactClusterStarts", apart := false, narrowed := true }
def FnExactClusterStartsUptoSaid : Prop := fnExactClusterStartsUptoRow.holds Try.pinned (OpenSpec.upto fnExactClusterStartsSpec)

/-- 'laws.FnExactClusterAt', WHERE WHAT IT READS IS OF BULK AT MOST 1048576: true; the input reads as it did. -/
def fnExactClusterAtUptoRow : OpenClaim := { program := "ytbjcdogbhnadkaq", sum := "02ee323c3e0a69cb48740ab57ff91d1ceab8c9510eda63630261241b60bf0f6b", func := "loop.example/colophon/laws.FnExactClusterAt", spec := "fnExactClusterAt", apart := false, narrowed := true }
def FnExactClusterAtUptoSaid : Prop := fnExactClusterAtUptoRow.holds Try.pinned (OpenSpec.upto fnExactClusterAtSpec)

/-- 'laws.FnExactClusterWide', WHERE WHAT IT READS IS OF BULK AT MOST 1048576: true; the input reads as it did. -/
def fnExactClusterWideUptoRow : OpenClaim := { program := "ytbjcdogbhnadkaq", sum := "02ee323c3e0a69cb48740ab57ff91d1ceab8c9510eda63630261241b60bf0f6b", func := "loop.example/colophon/laws.FnExactClusterWide", spec := "fnExactClusterWide", apart := false, narrowed := true }
def FnExactClusterWideUptoSaid : Prop := fnExactClusterWideUptoRow.holds Try.pinned (OpenSpec.upto fnExactClusterWideSpec)

/-- 'laws.FnExactLevelBase', WHERE WHAT IT READS IS OF BULK AT MOST 1048576: true; the input reads as it did. -/
def fnExactLevelBaseUptoRow : OpenClaim := { program := "ytbjcdogbhnadkaq", sum := "02ee323c3e0a69cb48740ab57ff91d1ceab8c9510eda63630261241b60bf0f6b", func := "loop.example/colophon/laws.FnExactLevelBase", spec := "fnExactLevelBase", apart := false, narrowed := true }
def FnExactLevelBaseUptoSaid : Prop := fnExactLevelBaseUptoRow.holds Try.pinned (OpenSpec.upto fnExactLevelBaseSpec)

end Rows
end Go.Proofs.Ytbjcdogbhnadkaq
