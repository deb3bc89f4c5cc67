/-
  No cell of these rows narrows 'for every input' (looked for: loops, veiled, ifaces, maps, wideKeys, modest, calm, conditions, laid).
  DERIVED. THE GIVEN ROWS OF THIS SEAT. 6 by the template 'for every input the law returns true; each argument reads behind the call as it read before'; 0 by the template 'total and deterministic' (their statements: YtpnjjilidffgcatTotals.lean).
  GIVEN WITH THE SEED: the statements are not yours to turn. If you find one false, say at which input.
  Laid BY PROGRAM, IN A SANDBOX (cutbox-rows.mjs): the forced cells as the released guide's own fill.sh prints them over the translation d8cf898d2002adbf… (all of the seat's roots in one cut). By AI agents, Wed Nov 11 2026. No macro, syntax, notation, axiom, sorry.
-/
import Derived.Test.YtpnjjilidffgcatChecked
import GoSem.Claim
import GoSem.ClaimJoined
import GoSem.ClaimMapViews
import Derived.JoinedTies
import Derived.KernelRfl
namespace Go.Proofs.Ytpnjjilidffgcat
/- THE CELL 'sum', in the pinned program and in every row, IS THE sha256 OF THE DUMP (.gsa) THAT YtpnjjilidffgcatProg.lean LOADS. Nothing in Lean hashes anything: it is a label: what it is worth is what the hold of that sum in a sandbox is worth. -/
noncomputable def Try.pinned : Pinned := { name := "ytpnjjilidffgcat", sum := "d8cf898d2002adbf55b2db1b0f8188ac20f6e7e1b329291b500faf112c5eabc7", checked := Try.checked }
namespace Rows
def none {H : Type} : Left H := { results := [], args := [] }

/-- 'laws.FnExactBreaksOf': WHATEVER THE INPUT: true; the input reads as it did. -/
def fnExactBreaksOfSpec : ChangeSpec := { name := "fnExactBreaksOf", fn := fun _ => fun
  | [d] => { results := [.lit (.bool true)], args := [d] }
  | _ => none }
def fnExactBreaksOfRow : OpenClaim := { program := "ytpnjjilidffgcat", sum := "d8cf898d2002adbf55b2db1b0f8188ac20f6e7e1b329291b500faf112c5eabc7", func := "loop.example/colophon/laws.FnExactBreaksOf", spec := "fnExactBreaksOf", unfollowed := true, recurses := true, apart := false }
def FnExactBreaksOfSaid : Prop := fnExactBreaksOfRow.holds Try.pinned (OpenSpec.ofChange fnExactBreaksOfSpec)

/-- ITS FALSE NEIGHBOUR: 'it returns false'. Refute it at one input. -/
def fnExactBreaksOfWrong : ChangeSpec := { name := "fnExactBreaksOf", fn := fun _ => fun
  | [d] => { results := [.lit (.bool false)], args := [d] }
  | _ => none }
def FnExactBreaksOfWrongFalsely : Prop := fnExactBreaksOfRow.holds Try.pinned (OpenSpec.ofChange fnExactBreaksOfWrong)

/-- 'laws.FnExactWordsOf': WHATEVER THE INPUT: true; the input reads as it did. -/
def fnExactWordsOfSpec : ChangeSpec := { name := "fnExactWordsOf", fn := fun _ => fun
  | [d] => { results := [.lit (.bool true)], args := [d] }
  | _ => none }
def fnExactWordsOfRow : OpenClaim := { program := "ytpnjjilidffgcat", sum := "d8cf898d2002adbf55b2db1b0f8188ac20f6e7e1b329291b500faf112c5eabc7", func := "loop.example/colophon/laws.FnExactWordsOf", spec := "fnExactWordsOf", unfollowed := true, recurses := true, apart := false }
def FnExactWordsOfSaid : Prop := fnExactWordsOfRow.holds Try.pinned (OpenSpec.ofChange fnExactWordsOfSpec)

/-- ITS FALSE NEIGHBOUR: 'it returns false'. Refute it at one input. -/
def fnExactWordsOfWrong : ChangeSpec := { name := "fnExactWordsOf", fn := fun _ => fun
  | [d] => { results := [.lit (.bool false)], args := [d] }
  | _ => none }
def FnExactWordsOfWrongFalsely : Prop := fnExactWordsOfRow.holds Try.pinned (OpenSpec.ofChange fnExactWordsOfWrong)

/-- 'laws.FnExactSpansOk': WHATEVER THE INPUT: true; the input reads as it did. -/
def fnExactSpansOkSpec : ChangeSpec := { name := "fnExactSpansOk", fn := fun _ => fun
  | [d1, d2] => { results := [.lit (.bool true)], args := [d1, d2] }
  | _ => none }
def fnExactSpansOkRow : OpenClaim := { program := "ytpnjjilidffgcat", sum := "d8cf898d2002adbf55b2db1b0f8188ac20f6e7e1b329291b500faf112c5eabc7", func := "loop.example/colophon/laws.FnExactSpansOk", spec := "fnExactSpansOk", apart := false }
def FnExactSpansOkSaid : Prop := fnExactSpansOkRow.holds Try.pinned (OpenSpec.ofChange fnExactSpansOkSpec)

/-- ITS FALSE NEIGHBOUR: 'it returns false'. Refute it at one input. -/
def fnExactSpansOkWrong : ChangeSpec := { name := "fnExactSpansOk", fn := fun _ => fun
  | [d1, d2] => { results := [.lit (.bool false)], args := [d1, d2] }
  | _ => none }
def FnExactSpansOkWrongFalsely : Prop := fnExactSpansOkRow.holds Try.pinned (OpenSpec.ofChange fnExactSpansOkWrong)

/-- 'laws.FnExactSpanAt': WHATEVER THE INPUT: true; the input reads as it did. -/
def fnExactSpanAtSpec : ChangeSpec := { name := "fnExactSpanAt", fn := fun _ => fun
  | [d1, d2] => { results := [.lit (.bool true)], args := [d1, d2] }
  | _ => none }
def fnExactSpanAtRow : OpenClaim := { program := "ytpnjjilidffgcat", sum := "d8cf898d2002adbf55b2db1b0f8188ac20f6e7e1b329291b500faf112c5eabc7", func := "loop.example/colophon/laws.FnExactSpanAt", spec := "fnExactSpanAt", apart := false }
def FnExactSpanAtSaid : Prop := fnExactSpanAtRow.holds Try.pinned (OpenSpec.ofChange fnExactSpanAtSpec)

/-- ITS FALSE NEIGHBOUR: 'it returns false'. Refute it at one input. -/
def fnExactSpanAtWrong : ChangeSpec := { name := "fnExactSpanAt", fn := fun _ => fun
  | [d1, d2] => { results := [.lit (.bool false)], args := [d1, d2] }
  | _ => none }
def FnExactSpanAtWrongFalsely : Prop := fnExactSpanAtRow.holds Try.pinned (OpenSpec.ofChange fnExactSpanAtWrong)

/-- 'laws.FnExactSpansPut': WHATEVER THE INPUT: true; the input reads as it did. -/
def fnExactSpansPutSpec : ChangeSpec := { name := "fnExactSpansPut", fn := fun _ => fun
  | [d1, d2, d3] => { results := [.lit (.bool true)], args := [d1, d2, d3] }
  | _ => none }
def fnExactSpansPutRow : OpenClaim := { program := "ytpnjjilidffgcat", sum := "d8cf898d2002adbf55b2db1b0f8188ac20f6e7e1b329291b500faf112c5eabc7", func := "loop.example/colophon/laws.FnExactSpansPut", spec := "fnExactSpansPut", unfollowed := true, recurses := true, apart := false }
def FnExactSpansPutSaid : Prop := fnExactSpansPutRow.holds Try.pinned (OpenSpec.ofChange fnExactSpansPutSpec)

/-- ITS FALSE NEIGHBOUR: 'it returns false'. Refute it at one input. -/
def fnExactSpansPutWrong : ChangeSpec := { name := "fnExactSpansPut", fn := fun _ => fun
  | [d1, d2, d3] => { results := [.lit (.bool false)], args := [d1, d2, d3] }
  | _ => none }
def FnExactSpansPutWrongFalsely : Prop := fnExactSpansPutRow.holds Try.pinned (OpenSpec.ofChange fnExactSpansPutWrong)

/-- 'laws.FnExactSpansMove': WHATEVER THE INPUT: true; the input reads as it did. -/
def fnExactSpansMoveSpec : ChangeSpec := { name := "fnExactSpansMove", fn := fun _ => fun
  | [d1, d2, d3, d4] => { results := [.lit (.bool true)], args := [d1, d2, d3, d4] }
  | _ => none }
def fnExactSpansMoveRow : OpenClaim := { program := "ytpnjjilidffgcat", sum := "d8cf898d2002adbf55b2db1b0f8188ac20f6e7e1b329291b500faf112c5eabc7", func := "loop.example/colophon/laws.FnExactSpansMove", spec := "fnExactSpansMove", unfollowed := true, recurses := true, apart := false }
def FnExactSpansMoveSaid : Prop := fnExactSpansMoveRow.holds Try.pinned (OpenSpec.ofChange fnExactSpansMoveSpec)

/-- ITS FALSE NEIGHBOUR: 'it returns false'. Refute it at one input. -/
def fnExactSpansMoveWrong : ChangeSpec := { name := "fnExactSpansMove", fn := fun _ => fun
  | [d1, d2, d3, d4] => { results := [.lit (.bool false)], args := [d1, d2, d3, d4] }
  | _ => none }
def FnExactSpansMoveWrongFalsely : Prop := fnExactSpansMoveRow.holds Try.pinned (OpenSpec.ofChange fnExactSpansMoveWrong)

/- THE SECOND FORM. 'bulk': how many values and letters a reading holds, each counted each time it is reached (what is shared counts as often as it is met; a slice's spare places count too). A statement '..UptoSaid' is the law's where the arguments, and the package variables that the reading takes, are together of bulk at most 1048576: NARROWER than '..Said'. Prove '..Said' where nothing that the law and all that it calls make is longer than what came in: it says more and counts as full. Else prove '..UptoSaid'. A law counts once. -/
mutual
def uptoBulk {H : Type} : DataW H → Nat
  | .lit (.string bytes) => bytes.length + 1
  | .lit _ => 1
  | .nil => 1
  | .ptr d => uptoBulk d + 1
  | .slice elems spare => uptoBulkAll elems + uptoBulkAll spare + 1
  | .agg parts => uptoBulkAll parts + 1
  | .iface _ d => uptoBulk d + 1
  | .map entries => uptoBulkEntries entries + 1
  | .held _ => 1
def uptoBulkAll {H : Type} : List (DataW H) → Nat
  | [] => 0
  | d :: r => uptoBulk d + uptoBulkAll r
def uptoBulkEntries {H : Type} : List (Lit × DataW H) → Nat
  | [] => 0
  | x :: r => uptoBulkEntry x + uptoBulkEntries r
def uptoBulkEntry {H : Type} : Lit × DataW H → Nat
  | (.string bytes, d) => bytes.length + uptoBulk d + 1
  | (_, d) => uptoBulk d + 1
 end
def uptoSmall : (H : Type) → List (DataW H) → Bool := fun _ ds => decide (uptoBulkAll ds ≤ 1048576)
def OpenSpec.upto (s : _root_.Go.ChangeSpec) : _root_.Go.OpenSpec := { _root_.Go.OpenSpec.ofChange s with cond := some uptoSmall }

/-- 'laws.FnExactBreaksOf', WHERE WHAT IT READS IS OF BULK AT MOST 1048576: true; the input reads as it did. -/
def fnExactBreaksOfUptoRow : OpenClaim := { program := "ytpnjjilidffgcat", sum := "d8cf898d2002adbf55b2db1b0f8188ac20f6e7e1b329291b500faf112c5eabc7", func := "loop.example/colophon/laws.FnExactBreaksOf", spec := "fnExactBreaksOf", unfollowed := true, recurses := true, apart := false, narrowed := true }
def FnExactBreaksOfUptoSaid : Prop := fnExactBreaksOfUptoRow.holds Try.pinned (OpenSpec.upto fnExactBreaksOfSpec)

/-- 'laws.FnExactWordsOf', WHERE WHAT IT READS IS OF BULK AT MOST 1048576: true; the input reads as it did. -/
def fnExactWordsOfUptoRow : OpenClaim := { program := "ytpnjjilidffgcat", sum := "d8cf898d2002adbf55b2db1b0f8188ac20f6e7e1b329291b500faf112c5eabc7", func := "loop.example/colophon/laws.FnExactWordsOf", spec := "fnExactWordsOf", unfollowed := true, recurses := true, apart := false, narrowed := true }
def FnExactWordsOfUptoSaid : Prop := fnExactWordsOfUptoRow.holds Try.pinned (OpenSpec.upto fnExactWordsOfSpec)

/-- 'laws.FnExactSpansOk', WHERE WHAT IT READS IS OF BULK AT MOST 1048576: true; the input reads as it did. -/
def fnExactSpansOkUptoRow : OpenClaim := { program := "ytpnjjilidffgcat", sum := "d8cf898d2002adbf55b2db1b0f8188ac20f6e7e1b329291b500faf112c5eabc7", func := "loop.example/colophon/laws.FnExactSpansOk", spec := "fnExactSpansOk", apart := false, narrowed := true }
def FnExactSpansOkUptoSaid : Prop := fnExactSpansOkUptoRow.holds Try.pinned (OpenSpec.upto fnExactSpansOkSpec)

/-- 'laws.FnExactSpanAt', WHERE WHAT IT READS IS OF BULK AT MOST 1048576: true; the input reads as it did. -/
def fnExactSpanAtUptoRow : OpenClaim := { program := "ytpnjjilidffgcat", sum := "d8cf898d2002adbf55b2db1b0f8188ac20f6e7e1b329291b500faf112c5eabc7", func := "loop.example/colophon/laws.FnExactSpanAt", spec := "fnExactSpanAt", apart := false, narrowed := true }
def FnExactSpanAtUptoSaid : Prop := fnExactSpanAtUptoRow.holds Try.pinned (OpenSpec.upto fnExactSpanAtSpec)

/-- 'laws.FnExactSpansPut', WHERE WHAT IT READS IS OF BULK AT MOST 1048576: true; the input reads as it did. -/
def fnExactSpansPutUptoRow : OpenClaim := { program := "ytpnjjilidffgcat", sum := "d8cf898d2002adbf55b2db1b0f8188ac20f6e7e1b329291b500faf112c5eabc7", func := "loop.example/colophon/laws.FnExactSpansPut", spec := "fnExactSpansPut", unfollowed := true, recurses := true, apart := false, narrowed := true }
def FnExactSpansPutUptoSaid : Prop := fnExactSpansPutUptoRow.holds Try.pinned (OpenSpec.upto fnExactSpansPutSpec)

/-- 'laws.FnExactSpansMove', WHERE WHAT IT READS IS OF BULK AT MOST 1048576: true; the input reads as it did. -/
def fnExactSpansMoveUptoRow : OpenClaim := { program := "ytpnjjilidffgcat", sum := "d8cf898d2002adbf55b2db1b0f8188ac20f6e7e1b329291b500faf112c5eabc7", func := "loop.example/colophon/laws.FnExactSpansMove", spec := "fnExactSpansMove", unfollowed := true, recurses := true, apart := false, narrowed := true }
def FnExactSpansMoveUptoSaid : Prop := fnExactSpansMoveUptoRow.holds Try.pinned (OpenSpec.upto fnExactSpansMoveSpec)

end Rows
end Go.Proofs.Ytpnjjilidffgcat
