/-
  No cell of these rows narrows 'for every input' (looked for: loops, veiled, ifaces, maps, wideKeys, modest, calm, conditions, laid).
  DERIVED. THE GIVEN ROWS OF THIS SEAT. 4 by the template 'for every input the law returns true; each argument reads behind the call as it read before'; 0 by the template 'total and deterministic' (their statements: YtbjcdogbhnadkavTotals.lean).
  GIVEN WITH THE SEED: the statements are not yours to turn. If you find one false, say at which input.
  Laid BY PROGRAM, IN A SANDBOX (cutbox-rows.mjs): the forced cells as the released guide's own fill.sh prints them over the translation 1be5cc6f00b7eab5… (all of the seat's roots in one cut). By AI agents, Wed Nov 11 2026. No macro, syntax, notation, axiom, sorry.
-/
import Derived.Test.YtbjcdogbhnadkavChecked
import GoSem.Claim
import GoSem.ClaimJoined
import GoSem.ClaimMapViews
import Derived.JoinedTies
import Derived.KernelRfl
namespace Go.Proofs.Ytbjcdogbhnadkav
/- THE CELL 'sum', in the pinned program and in every row, IS THE sha256 OF THE DUMP (.gsa) THAT YtbjcdogbhnadkavProg.lean LOADS. Nothing in Lean hashes anything: it is a label: what it is worth is what the hold of that sum in a sandbox is worth. -/
noncomputable def Try.pinned : Pinned := { name := "ytbjcdogbhnadkav", sum := "1be5cc6f00b7eab5a5c284106829fcca085ab17436d4a67b1aada2c3b814326e", checked := Try.checked }
namespace Rows
def none {H : Type} : Left H := { results := [], args := [] }

/-- 'laws.FnExactLineStand': WHATEVER THE INPUT: true; the input reads as it did. -/
def fnExactLineStandSpec : ChangeSpec := { name := "fnExactLineStand", fn := fun _ => fun
  | [d1, d2, d3, d4, d5] => { results := [.lit (.bool true)], args := [d1, d2, d3, d4, d5] }
  | _ => none }
def fnExactLineStandRow : OpenClaim := { program := "ytbjcdogbhnadkav", sum := "1be5cc6f00b7eab5a5c284106829fcca085ab17436d4a67b1aada2c3b814326e", func := "loop.example/colophon/laws.FnExactLineStand", spec := "fnExactLineStand", apart := false }
def FnExactLineStandSaid : Prop := fnExactLineStandRow.holds Try.pinned (OpenSpec.ofChange fnExactLineStandSpec)

/-- ITS FALSE NEIGHBOUR: 'it returns false'. Refute it at one input. -/
def fnExactLineStandWrong : ChangeSpec := { name := "fnExactLineStand", fn := fun _ => fun
  | [d1, d2, d3, d4, d5] => { results := [.lit (.bool false)], args := [d1, d2, d3, d4, d5] }
  | _ => none }
def FnExactLineStandWrongFalsely : Prop := fnExactLineStandRow.holds Try.pinned (OpenSpec.ofChange fnExactLineStandWrong)

/-- 'laws.FnExactLineSpread': WHATEVER THE INPUT: true; the input reads as it did. -/
def fnExactLineSpreadSpec : ChangeSpec := { name := "fnExactLineSpread", fn := fun _ => fun
  | [d1, d2, d3] => { results := [.lit (.bool true)], args := [d1, d2, d3] }
  | _ => none }
def fnExactLineSpreadRow : OpenClaim := { program := "ytbjcdogbhnadkav", sum := "1be5cc6f00b7eab5a5c284106829fcca085ab17436d4a67b1aada2c3b814326e", func := "loop.example/colophon/laws.FnExactLineSpread", spec := "fnExactLineSpread", unfollowed := true, recurses := true, apart := false }
def FnExactLineSpreadSaid : Prop := fnExactLineSpreadRow.holds Try.pinned (OpenSpec.ofChange fnExactLineSpreadSpec)

/-- ITS FALSE NEIGHBOUR: 'it returns false'. Refute it at one input. -/
def fnExactLineSpreadWrong : ChangeSpec := { name := "fnExactLineSpread", fn := fun _ => fun
  | [d1, d2, d3] => { results := [.lit (.bool false)], args := [d1, d2, d3] }
  | _ => none }
def FnExactLineSpreadWrongFalsely : Prop := fnExactLineSpreadRow.holds Try.pinned (OpenSpec.ofChange fnExactLineSpreadWrong)

/-- 'laws.FnExactLineHit': WHATEVER THE INPUT: true; the input reads as it did. -/
def fnExactLineHitSpec : ChangeSpec := { name := "fnExactLineHit", fn := fun _ => fun
  | [d1, d2] => { results := [.lit (.bool true)], args := [d1, d2] }
  | _ => none }
def fnExactLineHitRow : OpenClaim := { program := "ytbjcdogbhnadkav", sum := "1be5cc6f00b7eab5a5c284106829fcca085ab17436d4a67b1aada2c3b814326e", func := "loop.example/colophon/laws.FnExactLineHit", spec := "fnExactLineHit", apart := false }
def FnExactLineHitSaid : Prop := fnExactLineHitRow.holds Try.pinned (OpenSpec.ofChange fnExactLineHitSpec)

/-- ITS FALSE NEIGHBOUR: 'it returns false'. Refute it at one input. -/
def fnExactLineHitWrong : ChangeSpec := { name := "fnExactLineHit", fn := fun _ => fun
  | [d1, d2] => { results := [.lit (.bool false)], args := [d1, d2] }
  | _ => none }
def FnExactLineHitWrongFalsely : Prop := fnExactLineHitRow.holds Try.pinned (OpenSpec.ofChange fnExactLineHitWrong)

/-- 'laws.FnExactLineCaret': WHATEVER THE INPUT: true; the input reads as it did. -/
def fnExactLineCaretSpec : ChangeSpec := { name := "fnExactLineCaret", fn := fun _ => fun
  | [d1, d2] => { results := [.lit (.bool true)], args := [d1, d2] }
  | _ => none }
def fnExactLineCaretRow : OpenClaim := { program := "ytbjcdogbhnadkav", sum := "1be5cc6f00b7eab5a5c284106829fcca085ab17436d4a67b1aada2c3b814326e", func := "loop.example/colophon/laws.FnExactLineCaret", spec := "fnExactLineCaret", unfollowed := true, recurses := true, apart := false }
def FnExactLineCaretSaid : Prop := fnExactLineCaretRow.holds Try.pinned (OpenSpec.ofChange fnExactLineCaretSpec)

/-- ITS FALSE NEIGHBOUR: 'it returns false'. Refute it at one input. -/
def fnExactLineCaretWrong : ChangeSpec := { name := "fnExactLineCaret", fn := fun _ => fun
  | [d1, d2] => { results := [.lit (.bool false)], args := [d1, d2] }
  | _ => none }
def FnExactLineCaretWrongFalsely : Prop := fnExactLineCaretRow.holds Try.pinned (OpenSpec.ofChange fnExactLineCaretWrong)

/- THE SECOND FORM. 'bulk': how many values and letters a reading holds, each counted each time it is reached (what is shared counts as often as it is met; a slice's spare places count too). A statement '..UptoSaid' is the law's where the arguments, and the package variables that the reading takes, are together of bulk at most 1048576: NARROWER than '..Said'. Prove '..Said' where nothing that the law and all that it calls make is longer than what came in: it says more and counts as full. Else prove '..UptoSaid'. A law counts once. -/
mutual
def uptoBulk {H : Type} : DataW H → Nat
  | .lit (.string bytes) => bytes.length + 1
  | .lit _ => 1
  | .nil => 1
  | .ptr d => uptoBulk d + 1
  | .slice elems spare => uptoBulkAll elems + uptoBulkAll spare + 1
  | .agg parts => uptoBulkAll parts + 1
  | .iface _ d => uptoBulk d + 1
  | .map entries => uptoBulkEntries entries + 1
  | .held _ => 1
def uptoBulkAll {H : Type} : List (DataW H) → Nat
  | [] => 0
  | d :: r => uptoBulk d + uptoBulkAll r
def uptoBulkEntries {H : Type} : List (Lit × DataW H) → Nat
  | [] => 0
  | x :: r => uptoBulkEntry x + uptoBulkEntries r
def uptoBulkEntry {H : Type} : Lit × DataW H → Nat
  | (.string bytes, d) => bytes.length + uptoBulk d + 1
  | (_, d) => uptoBulk d + 1
 end
def uptoSmall : (H : Type) → List (DataW H) → Bool := fun _ ds => decide (uptoBulkAll ds ≤ 1048576)
def OpenSpec.upto (s : _root_.Go.ChangeSpec) : _root_.Go.OpenSpec := { _root_.Go.OpenSpec.ofChange s with cond := some uptoSmall }

/-- 'laws.FnExactLineStand', WHERE WHAT IT READS IS OF BULK AT MOST 1048576: true; the input reads as it did. -/
def fnExactLineStandUptoRow : OpenClaim := { program := "ytbjcdogbhnadkav", sum := "1be5cc6f00b7eab5a5c284106829fcca085ab17436d4a67b1aada2c3b814326e", func := "loop.example/colophon/laws.FnExactLineStand", spec := "fnExactLineStand", apart := false, narrowed := true }
def FnExactLineStandUptoSaid : Prop := fnExactLineStandUptoRow.holds Try.pinned (OpenSpec.upto fnExactLineStandSpec)

/-- 'laws.FnExactLineSpread', WHERE WHAT IT READS IS OF BULK AT MOST 1048576: true; the input reads as it did. -/
def fnExactLineSpreadUptoRow : OpenClaim := { program := "ytbjcdogbhnadkav", sum := "1be5cc6f00b7eab5a5c284106829fcca085ab17436d4a67b1aada2c3b814326e", func := "loop.example/colophon/laws.FnExactLineSpread", spec := "fnExactLineSpread", unfollowed := true, recurses := true, apart := false, narrowed := true }
def FnExactLineSpreadUptoSaid : Prop := fnExactLineSpreadUptoRow.holds Try.pinned (OpenSpec.upto fnExactLineSpreadSpec)

/-- 'laws.FnExactLineHit', WHERE WHAT IT READS IS OF BULK AT MOST 1048576: true; the input reads as it did. -/
def fnExactLineHitUptoRow : OpenClaim := { program := "ytbjcdogbhnadkav", sum := "1be5cc6f00b7eab5a5c284106829fcca085ab17436d4a67b1aada2c3b814326e", func := "loop.example/colophon/laws.FnExactLineHit", spec := "fnExactLineHit", apart := false, narrowed := true }
def FnExactLineHitUptoSaid : Prop := fnExactLineHitUptoRow.holds Try.pinned (OpenSpec.upto fnExactLineHitSpec)

/-- 'laws.FnExactLineCaret', WHERE WHAT IT READS IS OF BULK AT MOST 1048576: true; the input reads as it did. -/
def fnExactLineCaretUptoRow : OpenClaim := { program := "ytbjcdogbhnadkav", sum := "1be5cc6f00b7eab5a5c284106829fcca085ab17436d4a67b1aada2c3b814326e", func := "loop.example/colophon/laws.FnExactLineCaret", spec := "fnExactLineCaret", unfollowed := true, recurses := true, apart := false, narrowed := true }
def FnExactLineCaretUptoSaid : Prop := fnExactLineCaretUptoRow.holds Try.pinned (OpenSpec.upto fnExactLineCaretSpec)

end Rows
end Go.Proofs.Ytbjcdogbhnadkav
