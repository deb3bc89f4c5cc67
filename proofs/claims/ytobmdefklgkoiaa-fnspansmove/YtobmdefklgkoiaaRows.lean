/-
  No cell of these rows narrows 'for every input' (looked for: loops, veiled, ifaces, maps, wideKeys, modest, calm, conditions, laid).
  DERIVED. THE GIVEN ROWS OF THIS SEAT. 6 by the template 'for every input the law returns true; each argument reads behind the call as it read before'; 0 by the template 'total and deterministic' (their statements: YtobmdefklgkoiaaTotals.lean).
  GIVEN WITH THE SEED: the statements are not yours to turn. If you find one false, say at which input.
  Laid BY PROGRAM, IN A SANDBOX (cutbox-rows.mjs): the forced cells as the released guide's own fill.sh prints them over the translation aa46440096d2c9cd… (all of the seat's roots in one cut). By AI agents, Wed Nov 11 2026. No macro, syntax, notation, axiom, sorry.
-/
import Derived.Test.YtobmdefklgkoiaaChecked
import GoSem.Claim
import GoSem.ClaimJoined
import GoSem.ClaimMapViews
import Derived.JoinedTies
import Derived.KernelRfl
namespace Go.Proofs.Ytobmdefklgkoiaa
/- THE CELL 'sum', in the pinned program and in every row, IS THE sha256 OF THE DUMP (.gsa) THAT YtobmdefklgkoiaaProg.lean LOADS. Nothing in Lean hashes anything: it is a label: what it is worth is what the hold of that sum in a sandbox is worth. -/
noncomputable def Try.pinned : Pinned := { name := "ytobmdefklgkoiaa", sum := "aa46440096d2c9cd4557158cbb9aba85f4e8da6137459674a6e88c2b9c9e98e2", checked := Try.checked }
namespace Rows
def none {H : Type} : Left H := { results := [], args := [] }

/-- 'laws.FnSpansPlain': WHATEVER THE INPUT: true; the input reads as it did. -/
def fnSpansPlainSpec : ChangeSpec := { name := "fnSpansPlain", fn := fun _ => fun
  | [d] => { results := [.lit (.bool true)], args := [d] }
  | _ => none }
def fnSpansPlainRow : OpenClaim := { program := "ytobmdefklgkoiaa", sum := "aa46440096d2c9cd4557158cbb9aba85f4e8da6137459674a6e88c2b9c9e98e2", func := "loop.example/colophon/laws.FnSpansPlain", spec := "fnSpansPlain", unfollowed := true, recurses := true, apart := false }
def FnSpansPlainSaid : Prop := fnSpansPlainRow.holds Try.pinned (OpenSpec.ofChange fnSpansPlainSpec)

/-- ITS FALSE NEIGHBOUR: 'it returns false'. Refute it at one input. -/
def fnSpansPlainWrong : ChangeSpec := { name := "fnSpansPlain", fn := fun _ => fun
  | [d] => { results := [.lit (.bool false)], args := [d] }
  | _ => none }
def FnSpansPlainWrongFalsely : Prop := fnSpansPlainRow.holds Try.pinned (OpenSpec.ofChange fnSpansPlainWrong)

/-- 'laws.FnSpansPut': WHATEVER THE INPUT: true; the input reads as it did. -/
def fnSpansPutSpec : ChangeSpec := { name := "fnSpansPut", fn := fun _ => fun
  | [d] => { results := [.lit (.bool true)], args := [d] }
  | _ => none }
def fnSpansPutRow : OpenClaim := { program := "ytobmdefklgkoiaa", sum := "aa46440096d2c9cd4557158cbb9aba85f4e8da6137459674a6e88c2b9c9e98e2", func := "loop.example/colophon/laws.FnSpansPut", spec := "fnSpansPut", unfollowed := true, recurses := true, apart := false }
def FnSpansPutSaid : Prop := fnSpansPutRow.holds Try.pinned (OpenSpec.ofChange fnSpansPutSpec)

/-- ITS FALSE NEIGHBOUR: 'it returns false'. Refute it at one input. -/
def fnSpansPutWrong : ChangeSpec := { name := "fnSpansPut", fn := fun _ => fun
  | [d] => { results := [.lit (.bool false)], args := [d] }
  | _ => none }
def FnSpansPutWrongFalsely : Prop := fnSpansPutRow.holds Try.pinned (OpenSpec.ofChange fnSpansPutWrong)

/-- 'laws.FnSpansMove': WHATEVER THE INPUT: true; the input reads as it did. -/
def fnSpansMoveSpec : ChangeSpec := { name := "fnSpansMove", fn := fun _ => fun
  | [d] => { results := [.lit (.bool true)], args := [d] }
  | _ => none }
def fnSpansMoveRow : OpenClaim := { program := "ytobmdefklgkoiaa", sum := "aa46440096d2c9cd4557158cbb9aba85f4e8da6137459674a6e88c2b9c9e98e2", func := "loop.example/colophon/laws.FnSpansMove", spec := "fnSpansMove", unfollowed := true, recurses := true, apart := false }
def FnSpansMoveSaid : Prop := fnSpansMoveRow.holds Try.pinned (OpenSpec.ofChange fnSpansMoveSpec)

/-- ITS FALSE NEIGHBOUR: 'it returns false'. Refute it at one input. -/
def fnSpansMoveWrong : ChangeSpec := { name := "fnSpansMove", fn := fun _ => fun
  | [d] => { results := [.lit (.bool false)], args := [d] }
  | _ => none }
def FnSpansMoveWrongFalsely : Prop := fnSpansMoveRow.holds Try.pinned (OpenSpec.ofChange fnSpansMoveWrong)

/-- 'laws.FnExactSpansPut': WHATEVER THE INPUT: true; the input reads as it did. -/
def fnExactSpansPutSpec : ChangeSpec := { name := "fnExactSpansPut", fn := fun _ => fun
  | [d1, d2, d3] => { results := [.lit (.bool true)], args := [d1, d2, d3] }
  | _ => none }
def fnExactSpansPutRow : OpenClaim := { program := "ytobmdefklgkoiaa", sum := "aa46440096d2c9cd4557158cbb9aba85f4e8da6137459674a6e88c2b9c9e98e2", func := "loop.example/colophon/laws.FnExactSpansPut", spec := "fnExactSpansPut", unfollowed := true, recurses := true, apart := false }
def FnExactSpansPutSaid : Prop := fnExactSpansPutRow.holds Try.pinned (OpenSpec.ofChange fnExactSpansPutSpec)

/-- ITS FALSE NEIGHBOUR: 'it returns false'. Refute it at one input. -/
def fnExactSpansPutWrong : ChangeSpec := { name := "fnExactSpansPut", fn := fun _ => fun
  | [d1, d2, d3] => { results := [.lit (.bool false)], args := [d1, d2, d3] }
  | _ => none }
def FnExactSpansPutWrongFalsely : Prop := fnExactSpansPutRow.holds Try.pinned (OpenSpec.ofChange fnExactSpansPutWrong)

/-- 'laws.FnExactSpansMove': WHATEVER THE INPUT: true; the input reads as it did. -/
def fnExactSpansMoveSpec : ChangeSpec := { name := "fnExactSpansMove", fn := fun _ => fun
  | [d1, d2, d3, d4] => { results := [.lit (.bool true)], args := [d1, d2, d3, d4] }
  | _ => none }
def fnExactSpansMoveRow : OpenClaim := { program := "ytobmdefklgkoiaa", sum := "aa46440096d2c9cd4557158cbb9aba85f4e8da6137459674a6e88c2b9c9e98e2", func := "loop.example/colophon/laws.FnExactSpansMove", spec := "fnExactSpansMove", unfollowed := true, recurses := true, apart := false }
def FnExactSpansMoveSaid : Prop := fnExactSpansMoveRow.holds Try.pinned (OpenSpec.ofChange fnExactSpansMoveSpec)

/-- ITS FALSE NEIGHBOUR: 'it returns false'. Refute it at one input. -/
def fnExactSpansMoveWrong : ChangeSpec := { name := "fnExactSpansMove", fn := fun _ => fun
  | [d1, d2, d3, d4] => { results := [.lit (.bool false)], args := [d1, d2, d3, d4] }
  | _ => none }
def FnExactSpansMoveWrongFalsely : Prop := fnExactSpansMoveRow.holds Try.pinned (OpenSpec.ofChange fnExactSpansMoveWrong)

/-- 'laws.FnExactSpansPlain': WHATEVER THE INPUT: true; the input reads as it did. -/
def fnExactSpansPlainSpec : ChangeSpec := { name := "fnExactSpansPlain", fn := fun _ => fun
  | [d1, d2] => { results := [.lit (.bool true)], args := [d1, d2] }
  | _ => none }
def fnExactSpansPlainRow : OpenClaim := { program := "ytobmdefklgkoiaa", sum := "aa46440096d2c9cd4557158cbb9aba85f4e8da6137459674a6e88c2b9c9e98e2", func := "loop.example/colophon/laws.FnExactSpansPlain", spec := "fnExactSpansPlain", unfollowed := true, recurses := true, apart := false }
def FnExactSpansPlainSaid : Prop := fnExactSpansPlainRow.holds Try.pinned (OpenSpec.ofChange fnExactSpansPlainSpec)

/-- ITS FALSE NEIGHBOUR: 'it returns false'. Refute it at one input. -/
def fnExactSpansPlainWrong : ChangeSpec := { name := "fnExactSpansPlain", fn := fun _ => fun
  | [d1, d2] => { results := [.lit (.bool false)], args := [d1, d2] }
  | _ => none }
def FnExactSpansPlainWrongFalsely : Prop := fnExactSpansPlainRow.holds Try.pinned (OpenSpec.ofChange fnExactSpansPlainWrong)

/- THE SECOND FORM. 'bulk': how many values and letters a reading holds, each counted each time it is reached (what is shared counts as often as it is met; a slice's spare places count too). A statement '..UptoSaid' is the law's where the arguments, and the package variables that the reading takes, are together of bulk at most 1048576: NARROWER than '..Said'. Prove '..Said' where nothing that the law and all that it calls make is longer than what came in: it says more and counts as full. Else prove '..UptoSaid'. A law counts once. -/
mutual
def uptoBulk {H : Type} : DataW H → Nat
  | .lit (.string bytes) => bytes.length + 1
  | .lit _ => 1
  | .nil => 1
  | .ptr d => uptoBulk d + 1
  | .slice elems spare => uptoBulkAll elems + uptoBulkAll spare + 1
  | .agg parts => uptoBulkAll parts + 1
  | .iface _ d => uptoBulk d + 1
  | .map entries => uptoBulkEntries entries + 1
  | .held _ => 1
def uptoBulkAll {H : Type} : List (DataW H) → Nat
  | [] => 0
  | d :: r => uptoBulk d + uptoBulkAll r
def uptoBulkEntries {H : Type} : List (Lit × DataW H) → Nat
  | [] => 0
  | x :: r => uptoBulkEntry x + uptoBulkEntries r
def uptoBulkEntry {H : Type} : Lit × DataW H → Nat
  | (.string bytes, d) => bytes.length + uptoBulk d + 1
  | (_, d) => uptoBulk d + 1
 end
def uptoSmall : (H : Type) → List (DataW H) → Bool := fun _ ds => decide (uptoBulkAll ds ≤ 1048576)
def OpenSpec.upto (s : _root_.Go.ChangeSpec) : _root_.Go.OpenSpec := { _root_.Go.OpenSpec.ofChange s with cond := some uptoSmall }

/-- 'laws.FnSpansPlain', WHERE WHAT IT READS IS OF BULK AT MOST 1048576: true; the input reads as it did. -/
def fnSpansPlainUptoRow : OpenClaim := { program := "ytobmdefklgkoiaa", sum := "aa46440096d2c9cd4557158cbb9aba85f4e8da6137459674a6e88c2b9c9e98e2", func := "loop.example/colophon/laws.FnSpansPlain", spec := "fnSpansPlain", unfollowed := true, recurses := true, apart := false, narrowed := true }
def FnSpansPlainUptoSaid : Prop := fnSpansPlainUptoRow.holds Try.pinned (OpenSpec.upto fnSpansPlainSpec)

/-- 'laws.FnSpansPut', WHERE WHAT IT READS IS OF BULK AT MOST 1048576: true; the input reads as it did. -/
def fnSpansPutUptoRow : OpenClaim := { program := "ytobmdefklgkoiaa", sum := "aa46440096d2c9cd4557158cbb9aba85f4e8da6137459674a6e88c2b9c9e98e2", func := "loop.example/colophon/laws.FnSpansPut", spec := "fnSpansPut", unfollowed := true, recurses := true, apart := false, narrowed := true }
def FnSpansPutUptoSaid : Prop := fnSpansPutUptoRow.holds Try.pinned (OpenSpec.upto fnSpansPutSpec)

/-- 'laws.FnSpansMove', WHERE WHAT IT READS IS OF BULK AT MOST 1048576: true; the input reads as it did. -/
def fnSpansMoveUptoRow : OpenClaim := { program := "ytobmdefklgkoiaa", sum := "aa46440096d2c9cd4557158cbb9aba85f4e8da6137459674a6e88c2b9c9e98e2", func := "loop.example/colophon/laws.FnSpansMove", spec := "fnSpansMove", unfollowed := true, recurses := true, apart := false, narrowed := true }
def FnSpansMoveUptoSaid : Prop := fnSpansMoveUptoRow.holds Try.pinned (OpenSpec.upto fnSpansMoveSpec)

/-- 'laws.FnExactSpansPut', WHERE WHAT IT READS IS OF BULK AT MOST 1048576: true; the input reads as it did. -/
def fnExactSpansPutUptoRow : OpenClaim := { program := "ytobmdefklgkoiaa", sum := "aa46440096d2c9cd4557158cbb9aba85f4e8da6137459674a6e88c2b9c9e98e2", func := "loop.example/colophon/laws.FnExactSpansPut", spec := "fnExactSpansPut", unfollowed := true, recurses := true, apart := false, narrowed := true }
def FnExactSpansPutUptoSaid : Prop := fnExactSpansPutUptoRow.holds Try.pinned (OpenSpec.upto fnExactSpansPutSpec)

/-- 'laws.FnExactSpansMove', WHERE WHAT IT READS IS OF BULK AT MOST 1048576: true; the input reads as it did. -/
def fnExactSpansMoveUptoRow : OpenClaim := { program := "ytobmdefklgkoiaa", sum := "aa46440096d2c9cd4557158cbb9aba85f4e8da6137459674a6e88c2b9c9e98e2", func := "loop.example/colophon/laws.FnExactSpansMove", spec := "fnExactSpansMove", unfollowed := true, recurses := true, apart := false, narrowed := true }
def FnExactSpansMoveUptoSaid : Prop := fnExactSpansMoveUptoRow.holds Try.pinned (OpenSpec.upto fnExactSpansMoveSpec)

/-- 'laws.FnExactSpansPlain', WHERE WHAT IT READS IS OF BULK AT MOST 1048576: true; the input reads as it did. -/
def fnExactSpansPlainUptoRow : OpenClaim := { program := "ytobmdefklgkoiaa", sum := "aa46440096d2c9cd4557158cbb9aba85f4e8da6137459674a6e88c2b9c9e98e2", func := "loop.example/colophon/laws.FnExactSpansPlain", spec := "fnExactSpansPlain", unfollowed := true, recurses := true, apart := false, narrowed := true }
def FnExactSpansPlainUptoSaid : Prop := fnExactSpansPlainUptoRow.holds Try.pinned (OpenSpec.upto fnExactSpansPlainSpec)

end Rows
end Go.Proofs.Ytobmdefklgkoiaa
