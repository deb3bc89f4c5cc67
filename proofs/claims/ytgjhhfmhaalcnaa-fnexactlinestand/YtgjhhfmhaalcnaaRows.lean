/-
  No cell of these rows narrows 'for every input' (looked for: loops, veiled, ifaces, maps, wideKeys, modest, calm, conditions, laid).
  DERIVED. THE GIVEN ROWS OF THIS SEAT. 6 by the template 'for every input the law returns true; each argument reads behind the call as it read before'; 0 by the template 'total and deterministic' (their statements: YtgjhhfmhaalcnaaTotals.lean).
  GIVEN WITH THE SEED: the statements are not yours to turn. If you find one false, say at which input.
  Laid BY PROGRAM, IN A SANDBOX (cutbox-rows.mjs): the forced cells as the released guide's own fill.sh prints them over the translation 44c38ebe37b0dcb8… (all of the seat's roots in one cut). By AI agents, Wed Nov 11 2026. No macro, syntax, notation, axiom, sorry.
-/
import Derived.Test.YtgjhhfmhaalcnaaChecked
import GoSem.Claim
import GoSem.ClaimJoined
import GoSem.ClaimMapViews
import Derived.JoinedTies
import Derived.KernelRfl
namespace Go.Proofs.Ytgjhhfmhaalcnaa
/- THE CELL 'sum', in the pinned program and in every row, IS THE sha256 OF THE DUMP (.gsa) THAT YtgjhhfmhaalcnaaProg.lean LOADS. Nothing in Lean hashes anything: it is a label: what it is worth is what the hold of that sum in a sandbox is worth. -/
noncomputable def Try.pinned : Pinned := { name := "ytgjhhfmhaalcnaa", sum := "44c38ebe37b0dcb8060574aeb69b3f10699b86f37fe5b0924f6e58cd0197fbfb", checked := Try.checked }
namespace Rows
def none {H : Type} : Left H := { results := [], args := [] }

/-- 'laws.FnLineHit': WHATEVER THE INPUT: true; the input reads as it did. -/
def fnLineHitSpec : ChangeSpec := { name := "fnLineHit", fn := fun _ => fun
  | [d] => { results := [.lit (.bool true)], args := [d] }
  | _ => none }
def fnLineHitRow : OpenClaim := { program := "ytgjhhfmhaalcnaa", sum := "44c38ebe37b0dcb8060574aeb69b3f10699b86f37fe5b0924f6e58cd0197fbfb", func := "loop.example/colophon/laws.FnLineHit", spec := "fnLineHit", unfollowed := true, recurses := true, apart := false }
def FnLineHitSaid : Prop := fnLineHitRow.holds Try.pinned (OpenSpec.ofChange fnLineHitSpec)

/-- ITS FALSE NEIGHBOUR: 'it returns false'. Refute it at one input. -/
def fnLineHitWrong : ChangeSpec := { name := "fnLineHit", fn := fun _ => fun
  | [d] => { results := [.lit (.bool false)], args := [d] }
  | _ => none }
def FnLineHitWrongFalsely : Prop := fnLineHitRow.holds Try.pinned (OpenSpec.ofChange fnLineHitWrong)

/-- 'laws.FnLineEdge': WHATEVER THE INPUT: true; the input reads as it did. -/
def fnLineEdgeSpec : ChangeSpec := { name := "fnLineEdge", fn := fun _ => fun
  | [d] => { results := [.lit (.bool true)], args := [d] }
  | _ => none }
def fnLineEdgeRow : OpenClaim := { program := "ytgjhhfmhaalcnaa", sum := "44c38ebe37b0dcb8060574aeb69b3f10699b86f37fe5b0924f6e58cd0197fbfb", func := "loop.example/colophon/laws.FnLineEdge", spec := "fnLineEdge", apart := false }
def FnLineEdgeSaid : Prop := fnLineEdgeRow.holds Try.pinned (OpenSpec.ofChange fnLineEdgeSpec)

/-- ITS FALSE NEIGHBOUR: 'it returns false'. Refute it at one input. -/
def fnLineEdgeWrong : ChangeSpec := { name := "fnLineEdge", fn := fun _ => fun
  | [d] => { results := [.lit (.bool false)], args := [d] }
  | _ => none }
def FnLineEdgeWrongFalsely : Prop := fnLineEdgeRow.holds Try.pinned (OpenSpec.ofChange fnLineEdgeWrong)

/-- 'laws.FnLineCaret': WHATEVER THE INPUT: true; the input reads as it did. -/
def fnLineCaretSpec : ChangeSpec := { name := "fnLineCaret", fn := fun _ => fun
  | [d] => { results := [.lit (.bool true)], args := [d] }
  | _ => none }
def fnLineCaretRow : OpenClaim := { program := "ytgjhhfmhaalcnaa", sum := "44c38ebe37b0dcb8060574aeb69b3f10699b86f37fe5b0924f6e58cd0197fbfb", func := "loop.example/colophon/laws.FnLineCaret", spec := "fnLineCaret", unfollowed := true, recurses := true, apart := false }
def FnLineCaretSaid : Prop := fnLineCaretRow.holds Try.pinned (OpenSpec.ofChange fnLineCaretSpec)

/-- ITS FALSE NEIGHBOUR: 'it returns false'. Refute it at one input. -/
def fnLineCaretWrong : ChangeSpec := { name := "fnLineCaret", fn := fun _ => fun
  | [d] => { results := [.lit (.bool false)], args := [d] }
  | _ => none }
def FnLineCaretWrongFalsely : Prop := fnLineCaretRow.holds Try.pinned (OpenSpec.ofChange fnLineCaretWrong)

/-- 'laws.FnRunsCut': WHATEVER THE INPUT: true; the input reads as it did. -/
def fnRunsCutSpec : ChangeSpec := { name := "fnRunsCut", fn := fun _ => fun
  | [d] => { results := [.lit (.bool true)], args := [d] }
  | _ => none }
def fnRunsCutRow : OpenClaim := { program := "ytgjhhfmhaalcnaa", sum := "44c38ebe37b0dcb8060574aeb69b3f10699b86f37fe5b0924f6e58cd0197fbfb", func := "loop.example/colophon/laws.FnRunsCut", spec := "fnRunsCut", unfollowed := true, recurses := true, apart := false }
def FnRunsCutSaid : Prop := fnRunsCutRow.holds Try.pinned (OpenSpec.ofChange fnRunsCutSpec)

/-- ITS FALSE NEIGHBOUR: 'it returns false'. Refute it at one input. -/
def fnRunsCutWrong : ChangeSpec := { name := "fnRunsCut", fn := fun _ => fun
  | [d] => { results := [.lit (.bool false)], args := [d] }
  | _ => none }
def FnRunsCutWrongFalsely : Prop := fnRunsCutRow.holds Try.pinned (OpenSpec.ofChange fnRunsCutWrong)

/-- 'laws.FnExactLineStand': WHATEVER THE INPUT: true; the input reads as it did. -/
def fnExactLineStandSpec : ChangeSpec := { name := "fnExactLineStand", fn := fun _ => fun
  | [d1, d2, d3, d4, d5] => { results := [.lit (.bool true)], args := [d1, d2, d3, d4, d5] }
  | _ => none }
def fnExactLineStandRow : OpenClaim := { program := "ytgjhhfmhaalcnaa", sum := "44c38ebe37b0dcb8060574aeb69b3f10699b86f37fe5b0924f6e58cd0197fbfb", func := "loop.example/colophon/laws.FnExactLineStand", spec := "fnExactLineStand", apart := false }
def FnExactLineStandSaid : Prop := fnExactLineStandRow.holds Try.pinned (OpenSpec.ofChange fnExactLineStandSpec)

/-- ITS FALSE NEIGHBOUR: 'it returns false'. Refute it at one input. -/
def fnExactLineStandWrong : ChangeSpec := { name := "fnExactLineStand", fn := fun _ => fun
  | [d1, d2, d3, d4, d5] => { results := [.lit (.bool false)], args := [d1, d2, d3, d4, d5] }
  | _ => none }
def FnExactLineStandWrongFalsely : Prop := fnExactLineStandRow.holds Try.pinned (OpenSpec.ofChange fnExactLineStandWrong)

/-- 'laws.FnExactLineSpread': WHATEVER THE INPUT: true; the input reads as it did. -/
def fnExactLineSpreadSpec : ChangeSpec := { name := "fnExactLineSpread", fn := fun _ => fun
  | [d1, d2, d3] => { results := [.lit (.bool true)], args := [d1, d2, d3] }
  | _ => none }
def fnExactLineSpreadRow : OpenClaim := { program := "ytgjhhfmhaalcnaa", sum := "44c38ebe37b0dcb8060574aeb69b3f10699b86f37fe5b0924f6e58cd0197fbfb", func := "loop.example/colophon/laws.FnExactLineSpread", spec := "fnExactLineSpread", unfollowed := true, recurses := true, apart := false }
def FnExactLineSpreadSaid : Prop := fnExactLineSpreadRow.holds Try.pinned (OpenSpec.ofChange fnExactLineSpreadSpec)

/-- ITS FALSE NEIGHBOUR: 'it returns false'. Refute it at one input. -/
def fnExactLineSpreadWrong : ChangeSpec := { name := "fnExactLineSpread", fn := fun _ => fun
  | [d1, d2, d3] => { results := [.lit (.bool false)], args := [d1, d2, d3] }
  | _ => none }
def FnExactLineSpreadWrongFalsely : Prop := fnExactLineSpreadRow.holds Try.pinned (OpenSpec.ofChange fnExactLineSpreadWrong)

/- THE SECOND FORM. 'bulk': how many values and letters a reading holds, each counted each time it is reached (what is shared counts as often as it is met; a slice's spare places count too). A statement '..UptoSaid' is the law's where the arguments, and the package variables that the reading takes, are together of bulk at most 1048576: NARROWER than '..Said'. Prove '..Said' where nothing that the law and all that it calls make is longer than what came in: it says more and counts as full. Else prove '..UptoSaid'. A law counts once. -/
mutual
def uptoBulk {H : Type} : DataW H → Nat
  | .lit (.string bytes) => bytes.length + 1
  | .lit _ => 1
  | .nil => 1
  | .ptr d => uptoBulk d + 1
  | .slice elems spare => uptoBulkAll elems + uptoBulkAll spare + 1
  | .agg parts => uptoBulkAll parts + 1
  | .iface _ d => uptoBulk d + 1
  | .map entries => uptoBulkEntries entries + 1
  | .held _ => 1
def uptoBulkAll {H : Type} : List (DataW H) → Nat
  | [] => 0
  | d :: r => uptoBulk d + uptoBulkAll r
def uptoBulkEntries {H : Type} : List (Lit × DataW H) → Nat
  | [] => 0
  | x :: r => uptoBulkEntry x + uptoBulkEntries r
def uptoBulkEntry {H : Type} : Lit × DataW H → Nat
  | (.string bytes, d) => bytes.length + uptoBulk d + 1
  | (_, d) => uptoBulk d + 1
 end
def uptoSmall : (H : Type) → List (DataW H) → Bool := fun _ ds => decide (uptoBulkAll ds ≤ 1048576)
def OpenSpec.upto (s : _root_.Go.ChangeSpec) : _root_.Go.OpenSpec := { _root_.Go.OpenSpec.ofChange s with cond := some uptoSmall }

/-- 'laws.FnLineHit', WHERE WHAT IT READS IS OF BULK AT MOST 1048576: true; the input reads as it did. -/
def fnLineHitUptoRow : OpenClaim := { program := "ytgjhhfmhaalcnaa", sum := "44c38ebe37b0dcb8060574aeb69b3f10699b86f37fe5b0924f6e58cd0197fbfb", func := "loop.example/colophon/laws.FnLineHit", spec := "fnLineHit", unfollowed := true, recurses := true, apart := false, narrowed := true }
def FnLineHitUptoSaid : Prop := fnLineHitUptoRow.holds Try.pinned (OpenSpec.upto fnLineHitSpec)

/-- 'laws.FnLineEdge', WHERE WHAT IT READS IS OF BULK AT MOST 1048576: true; the input reads as it did. -/
def fnLineEdgeUptoRow : OpenClaim := { program := "ytgjhhfmhaalcnaa", sum := "44c38ebe37b0dcb8060574aeb69b3f10699b86f37fe5b0924f6e58cd0197fbfb", func := "loop.example/colophon/laws.FnLineEdge", spec := "fnLineEdge", apart := false, narrowed := true }
def FnLineEdgeUptoSaid : Prop := fnLineEdgeUptoRow.holds Try.pinned (OpenSpec.upto fnLineEdgeSpec)

/-- 'laws.FnLineCaret', WHERE WHAT IT READS IS OF BULK AT MOST 1048576: true; the input reads as it did. -/
def fnLineCaretUptoRow : OpenClaim := { program := "ytgjhhfmhaalcnaa", sum := "44c38ebe37b0dcb8060574aeb69b3f10699b86f37fe5b0924f6e58cd0197fbfb", func := "loop.example/colophon/laws.FnLineCaret", spec := "fnLineCaret", unfollowed := true, recurses := true, apart := false, narrowed := true }
def FnLineCaretUptoSaid : Prop := fnLineCaretUptoRow.holds Try.pinned (OpenSpec.upto fnLineCaretSpec)

/-- 'laws.FnRunsCut', WHERE WHAT IT READS IS OF BULK AT MOST 1048576: true; the input reads as it did. -/
def fnRunsCutUptoRow : OpenClaim := { program := "ytgjhhfmhaalcnaa", sum := "44c38ebe37b0dcb8060574aeb69b3f10699b86f37fe5b0924f6e58cd0197fbfb", func := "loop.example/colophon/laws.FnRunsCut", spec := "fnRunsCut", unfollowed := true, recurses := true, apart := false, narrowed := true }
def FnRunsCutUptoSaid : Prop := fnRunsCutUptoRow.holds Try.pinned (OpenSpec.upto fnRunsCutSpec)

/-- 'laws.FnExactLineStand', WHERE WHAT IT READS IS OF BULK AT MOST 1048576: true; the input reads as it did. -/
def fnExactLineStandUptoRow : OpenClaim := { program := "ytgjhhfmhaalcnaa", sum := "44c38ebe37b0dcb8060574aeb69b3f10699b86f37fe5b0924f6e58cd0197fbfb", func := "loop.example/colophon/laws.FnExactLineStand", spec := "fnExactLineStand", apart := false, narrowed := true }
def FnExactLineStandUptoSaid : Prop := fnExactLineStandUptoRow.holds Try.pinned (OpenSpec.upto fnExactLineStandSpec)

/-- 'laws.FnExactLineSpread', WHERE WHAT IT READS IS OF BULK AT MOST 1048576: true; the input reads as it did. -/
def fnExactLineSpreadUptoRow : OpenClaim := { program := "ytgjhhfmhaalcnaa", sum := "44c38ebe37b0dcb8060574aeb69b3f10699b86f37fe5b0924f6e58cd0197fbfb", func := "loop.example/colophon/laws.FnExactLineSpread", spec := "fnExactLineSpread", unfollowed := true, recurses := true, apart := false, narrowed := true }
def FnExactLineSpreadUptoSaid : Prop := fnExactLineSpreadUptoRow.holds Try.pinned (OpenSpec.upto fnExactLineSpreadSpec)

end Rows
end Go.Proofs.Ytgjhhfmhaalcnaa
