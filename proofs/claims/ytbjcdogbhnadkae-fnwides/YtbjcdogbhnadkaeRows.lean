/-
  No cell of these rows narrows 'for every input' (looked for: loops, veiled, ifaces, maps, wideKeys, modest, calm, conditions, laid).
  DERIVED. THE GIVEN ROWS OF THIS SEAT. 5 by the template 'for every input the law returns true; each argument reads behind the call as it read before'; 0 by the template 'total and deterministic' (their statements: YtbjcdogbhnadkaeTotals.lean).
  GIVEN WITH THE SEED: the statements are not yours to turn. If you find one false, say at which input.
  Laid BY PROGRAM, IN A SANDBOX (cutbox-rows.mjs): the forced cells as the released guide's own fill.sh prints them over the translation 9ccf3c27c88b0b71… (all of the seat's roots in one cut). By AI agents, Wed Nov 11 2026. No macro, syntax, notation, axiom, sorry.
-/
import Derived.Test.YtbjcdogbhnadkaeChecked
import GoSem.Claim
import GoSem.ClaimJoined
import GoSem.ClaimMapViews
import Derived.JoinedTies
import Derived.KernelRfl
namespace Go.Proofs.Ytbjcdogbhnadkae
/- THE CELL 'sum', in the pinned program and in every row, IS THE sha256 OF THE DUMP (.gsa) THAT YtbjcdogbhnadkaeProg.lean LOADS. Nothing in Lean hashes anything: it is a label: what it is worth is what the hold of that sum in a sandbox is worth. -/
noncomputable def Try.pinned : Pinned := { name := "ytbjcdogbhnadkae", sum := "9ccf3c27c88b0b71622893e9ad0d696bc0552c95b77db8f80b99bd741fbc8135", checked := Try.checked }
namespace Rows
def none {H : Type} : Left H := { results := [], args := [] }

/-- 'laws.FnSpansPlain': WHATEVER THE INPUT: true; the input reads as it did. -/
def fnSpansPlainSpec : ChangeSpec := { name := "fnSpansPlain", fn := fun _ => fun
  | [d] => { results := [.lit (.bool true)], args := [d] }
  | _ => none }
def fnSpansPlainRow : OpenClaim := { program := "ytbjcdogbhnadkae", sum := "9ccf3c27c88b0b71622893e9ad0d696bc0552c95b77db8f80b99bd741fbc8135", func := "loop.example/colophon/laws.FnSpansPlain", spec := "fnSpansPlain", unfollowed := true, recurses := true, apart := false }
def FnSpansPlainSaid : Prop := fnSpansPlainRow.holds Try.pinned (OpenSpec.ofChange fnSpansPlainSpec)

/-- ITS FALSE NEIGHBOUR: 'it returns false'. Refute it at one input. -/
def fnSpansPlainWrong : ChangeSpec := { name := "fnSpansPlain", fn := fun _ => fun
  | [d] => { results := [.lit (.bool false)], args := [d] }
  | _ => none }
def FnSpansPlainWrongFalsely : Prop := fnSpansPlainRow.holds Try.pinned (OpenSpec.ofChange fnSpansPlainWrong)

/-- 'laws.FnSpansPut': WHATEVER THE INPUT: true; the input reads as it did. -/
def fnSpansPutSpec : ChangeSpec := { name := "fnSpansPut", fn := fun _ => fun
  | [d] => { results := [.lit (.bool true)], args := [d] }
  | _ => none }
def fnSpansPutRow : OpenClaim := { program := "ytbjcdogbhnadkae", sum := "9ccf3c27c88b0b71622893e9ad0d696bc0552c95b77db8f80b99bd741fbc8135", func := "loop.example/colophon/laws.FnSpansPut", spec := "fnSpansPut", unfollowed := true, recurses := true, apart := false }
def FnSpansPutSaid : Prop := fnSpansPutRow.holds Try.pinned (OpenSpec.ofChange fnSpansPutSpec)

/-- ITS FALSE NEIGHBOUR: 'it returns false'. Refute it at one input. -/
def fnSpansPutWrong : ChangeSpec := { name := "fnSpansPut", fn := fun _ => fun
  | [d] => { results := [.lit (.bool false)], args := [d] }
  | _ => none }
def FnSpansPutWrongFalsely : Prop := fnSpansPutRow.holds Try.pinned (OpenSpec.ofChange fnSpansPutWrong)

/-- 'laws.FnSpansMove': WHATEVER THE INPUT: true; the input reads as it did. -/
def fnSpansMoveSpec : ChangeSpec := { name := "fnSpansMove", fn := fun _ => fun
  | [d] => { results := [.lit (.bool true)], args := [d] }
  | _ => none }
def fnSpansMoveRow : OpenClaim := { program := "ytbjcdogbhnadkae", sum := "9ccf3c27c88b0b71622893e9ad0d696bc0552c95b77db8f80b99bd741fbc8135", func := "loop.example/colophon/laws.FnSpansMove", spec := "fnSpansMove", unfollowed := true, recurses := true, apart := false }
def FnSpansMoveSaid : Prop := fnSpansMoveRow.holds Try.pinned (OpenSpec.ofChange fnSpansMoveSpec)

/-- ITS FALSE NEIGHBOUR: 'it returns false'. Refute it at one input. -/
def fnSpansMoveWrong : ChangeSpec := { name := "fnSpansMove", fn := fun _ => fun
  | [d] => { results := [.lit (.bool false)], args := [d] }
  | _ => none }
def FnSpansMoveWrongFalsely : Prop := fnSpansMoveRow.holds Try.pinned (OpenSpec.ofChange fnSpansMoveWrong)

/-- 'laws.FnWides': WHATEVER THE INPUT: true; the input reads as it did. -/
def fnWidesSpec : ChangeSpec := { name := "fnWides", fn := fun _ => fun
  | [d] => { results := [.lit (.bool true)], args := [d] }
  | _ => none }
def fnWidesRow : OpenClaim := { program := "ytbjcdogbhnadkae", sum := "9ccf3c27c88b0b71622893e9ad0d696bc0552c95b77db8f80b99bd741fbc8135", func := "loop.example/colophon/laws.FnWides", spec := "fnWides", apart := false }
def FnWidesSaid : Prop := fnWidesRow.holds Try.pinned (OpenSpec.ofChange fnWidesSpec)

/-- ITS FALSE NEIGHBOUR: 'it returns false'. Refute it at one input. -/
def fnWidesWrong : ChangeSpec := { name := "fnWides", fn := fun _ => fun
  | [d] => { results := [.lit (.bool false)], args := [d] }
  | _ => none }
def FnWidesWrongFalsely : Prop := fnWidesRow.holds Try.pinned (OpenSpec.ofChange fnWidesWrong)

/-- 'laws.FnLineWide': WHATEVER THE INPUT: true; the input reads as it did. -/
def fnLineWideSpec : ChangeSpec := { name := "fnLineWide", fn := fun _ => fun
  | [d] => { results := [.lit (.bool true)], args := [d] }
  | _ => none }
def fnLineWideRow : OpenClaim := { program := "ytbjcdogbhnadkae", sum := "9ccf3c27c88b0b71622893e9ad0d696bc0552c95b77db8f80b99bd741fbc8135", func := "loop.example/colophon/laws.FnLineWide", spec := "fnLineWide", apart := false }
def FnLineWideSaid : Prop := fnLineWideRow.holds Try.pinned (OpenSpec.ofChange fnLineWideSpec)

/-- ITS FALSE NEIGHBOUR: 'it returns false'. Refute it at one input. -/
def fnLineWideWrong : ChangeSpec := { name := "fnLineWide", fn := fun _ => fun
  | [d] => { results := [.lit (.bool false)], args := [d] }
  | _ => none }
def FnLineWideWrongFalsely : Prop := fnLineWideRow.holds Try.pinned (OpenSpec.ofChange fnLineWideWrong)

/- THE SECOND FORM. 'bulk': how many values and letters a reading holds, each counted each time it is reached (what is shared counts as often as it is met; a slice's spare places count too). A statement '..UptoSaid' is the law's where the arguments, and the package variables that the reading takes, are together of bulk at most 1048576: NARROWER than '..Said'. Prove '..Said' where nothing that the law and all that it calls make is longer than what came in: it says more and counts as full. Else prove '..UptoSaid'. A law counts once. -/
mutual
def uptoBulk {H : Type} : DataW H → Nat
  | .lit (.string bytes) => bytes.length + 1
  | .lit _ => 1
  | .nil => 1
  | .ptr d => uptoBulk d + 1
  | .slice elems spare => uptoBulkAll elems + uptoBulkAll spare + 1
  | .agg parts => uptoBulkAll parts + 1
  | .iface _ d => uptoBulk d + 1
  | .map entries => uptoBulkEntries entries + 1
  | .held _ => 1
def uptoBulkAll {H : Type} : List (DataW H) → Nat
  | [] => 0
  | d :: r => uptoBulk d + uptoBulkAll r
def uptoBulkEntries {H : Type} : List (Lit × DataW H) → Nat
  | [] => 0
  | x :: r => uptoBulkEntry x + uptoBulkEntries r
def uptoBulkEntry {H : Type} : Lit × DataW H → Nat
  | (.string bytes, d) => bytes.length + uptoBulk d + 1
  | (_, d) => uptoBulk d + 1
 end
def uptoSmall : (H : Type) → List (DataW H) → Bool := fun _ ds => decide (uptoBulkAll ds ≤ 1048576)
def OpenSpec.upto (s : _root_.Go.ChangeSpec) : _root_.Go.OpenSpec := { _root_.Go.OpenSpec.ofChange s with cond := some uptoSmall }

/-- 'laws.FnSpansPlain', WHERE WHAT IT READS IS OF BULK AT MOST 1048576: true; the input reads as it did. -/
def fnSpansPlainUptoRow : OpenClaim := { program := "ytbjcdogbhnadkae", sum := "9ccf3c27c88b0b71622893e9ad0d696bc0552c95b77db8f80b99bd741fbc8135", func := "loop.example/colophon/laws.FnSpansPlain", spec := "fnSpansPlain", unfollowed := true, recurses := true, apart := false, narrowed := true }
def FnSpansPlainUptoSaid : Prop := fnSpansPlainUptoRow.holds Try.pinned (OpenSpec.upto fnSpansPlainSpec)

/-- 'laws.FnSpansPut', WHERE WHAT IT READS IS OF BULK AT MOST 1048576: true; the input reads as it did. -/
def fnSpansPutUptoRow : OpenClaim := { program := "ytbjcdogbhnadkae", sum := "9ccf3c27c88b0b71622893e9ad0d696bc0552c95b77db8f80b99bd741fbc8135", func := "loop.example/colophon/laws.FnSpansPut", spec := "fnSpansPut", unfollowed := true, recurses := true, apart := false, narrowed := true }
def FnSpansPutUptoSaid : Prop := fnSpansPutUptoRow.holds Try.pinned (OpenSpec.upto fnSpansPutSpec)

/-- 'laws.FnSpansMove', WHERE WHAT IT READS IS OF BULK AT MOST 1048576: true; the input reads as it did. -/
def fnSpansMoveUptoRow : OpenClaim := { program := "ytbjcdogbhnadkae", sum := "9ccf3c27c88b0b71622893e9ad0d696bc0552c95b77db8f80b99bd741fbc8135", func := "loop.example/colophon/laws.FnSpansMove", spec := "fnSpansMove", unfollowed := true, recurses := true, apart := false, narrowed := true }
def FnSpansMoveUptoSaid : Prop := fnSpansMoveUptoRow.holds Try.pinned (OpenSpec.upto fnSpansMoveSpec)

/-- 'laws.FnWides', WHERE WHAT IT READS IS OF BULK AT MOST 1048576: true; the input reads as it did. -/
def fnWidesUptoRow : OpenClaim := { program := "ytbjcdogbhnadkae", sum := "9ccf3c27c88b0b71622893e9ad0d696bc0552c95b77db8f80b99bd741fbc8135", func := "loop.example/colophon/laws.FnWides", spec := "fnWides", apart := false, narrowed := true }
def FnWidesUptoSaid : Prop := fnWidesUptoRow.holds Try.pinned (OpenSpec.upto fnWidesSpec)

/-- 'laws.FnLineWide', WHERE WHAT IT READS IS OF BULK AT MOST 1048576: true; the input reads as it did. -/
def fnLineWideUptoRow : OpenClaim := { program := "ytbjcdogbhnadkae", sum := "9ccf3c27c88b0b71622893e9ad0d696bc0552c95b77db8f80b99bd741fbc8135", func := "loop.example/colophon/laws.FnLineWide", spec := "fnLineWide", apart := false, narrowed := true }
def FnLineWideUptoSaid : Prop := fnLineWideUptoRow.holds Try.pinned (OpenSpec.upto fnLineWideSpec)

end Rows
end Go.Proofs.Ytbjcdogbhnadkae
