/-
  No cell of these rows narrows 'for every input' (looked for: loops, veiled, ifaces, maps, wideKeys, modest, calm, conditions, laid).
  DERIVED. THE GIVEN ROWS OF THIS SEAT. 4 by the template 'for every input the law returns true; each argument reads behind the call as it read before'; 0 by the template 'total and deterministic' (their statements: YtbjcdogbhnadkadTotals.lean).
  GIVEN WITH THE SEED: the statements are not yours to turn. If you find one false, say at which input.
  Laid BY PROGRAM, IN A SANDBOX (cutbox-rows.mjs): the forced cells as the released guide's own fill.sh prints them over the translation 94143ce28ee09ad8… (all of the seat's roots in one cut). By AI agents, Wed Nov 11 2026. No macro, syntax, notation, axiom, sorry.
-/
import Derived.Test.YtbjcdogbhnadkadChecked
import GoSem.Claim
import GoSem.ClaimJoined
import GoSem.ClaimMapViews
import Derived.JoinedTies
import Derived.KernelRfl
namespace Go.Proofs.Ytbjcdogbhnadkad
/- THE CELL 'sum', in the pinned program and in every row, IS THE sha256 OF THE DUMP (.gsa) THAT YtbjcdogbhnadkadProg.lean LOADS. Nothing in Lean hashes anything: it is a label: what it is worth is what the hold of that sum in a sandbox is worth. -/
noncomputable def Try.pinned : Pinned := { name := "ytbjcdogbhnadkad", sum := "94143ce28ee09ad85bcc4ea3c33213339dfa56a293f06ae4404a55ebdaf8ed56", checked := Try.checked }
namespace Rows
def none {H : Type} : Left H := { results := [], args := [] }

/-- 'laws.FnBreaks': WHATEVER THE INPUT: true; the input reads as it did. -/
def fnBreaksSpec : ChangeSpec := { name := "fnBreaks", fn := fun _ => fun
  | [d] => { results := [.lit (.bool true)], args := [d] }
  | _ => none }
def fnBreaksRow : OpenClaim := { program := "ytbjcdogbhnadkad", sum := "94143ce28ee09ad85bcc4ea3c33213339dfa56a293f06ae4404a55ebdaf8ed56", func := "loop.example/colophon/laws.FnBreaks", spec := "fnBreaks", unfollowed := true, recurses := true, apart := false }
def FnBreaksSaid : Prop := fnBreaksRow.holds Try.pinned (OpenSpec.ofChange fnBreaksSpec)

/-- ITS FALSE NEIGHBOUR: 'it returns false'. Refute it at one input. -/
def fnBreaksWrong : ChangeSpec := { name := "fnBreaks", fn := fun _ => fun
  | [d] => { results := [.lit (.bool false)], args := [d] }
  | _ => none }
def FnBreaksWrongFalsely : Prop := fnBreaksRow.holds Try.pinned (OpenSpec.ofChange fnBreaksWrong)

/-- 'laws.FnBreakWords': WHATEVER THE INPUT: true; the input reads as it did. -/
def fnBreakWordsSpec : ChangeSpec := { name := "fnBreakWords", fn := fun _ => fun
  | [d] => { results := [.lit (.bool true)], args := [d] }
  | _ => none }
def fnBreakWordsRow : OpenClaim := { program := "ytbjcdogbhnadkad", sum := "94143ce28ee09ad85bcc4ea3c33213339dfa56a293f06ae4404a55ebdaf8ed56", func := "loop.example/colophon/laws.FnBreakWords", spec := "fnBreakWords", unfollowed := true, recurses := true, apart := false }
def FnBreakWordsSaid : Prop := fnBreakWordsRow.holds Try.pinned (OpenSpec.ofChange fnBreakWordsSpec)

/-- ITS FALSE NEIGHBOUR: 'it returns false'. Refute it at one input. -/
def fnBreakWordsWrong : ChangeSpec := { name := "fnBreakWords", fn := fun _ => fun
  | [d] => { results := [.lit (.bool false)], args := [d] }
  | _ => none }
def FnBreakWordsWrongFalsely : Prop := fnBreakWordsRow.holds Try.pinned (OpenSpec.ofChange fnBreakWordsWrong)

/-- 'laws.FnWords': WHATEVER THE INPUT: true; the input reads as it did. -/
def fnWordsSpec : ChangeSpec := { name := "fnWords", fn := fun _ => fun
  | [d] => { results := [.lit (.bool true)], args := [d] }
  | _ => none }
def fnWordsRow : OpenClaim := { program := "ytbjcdogbhnadkad", sum := "94143ce28ee09ad85bcc4ea3c33213339dfa56a293f06ae4404a55ebdaf8ed56", func := "loop.example/colophon/laws.FnWords", spec := "fnWords", unfollowed := true, recurses := true, apart := false }
def FnWordsSaid : Prop := fnWordsRow.holds Try.pinned (OpenSpec.ofChange fnWordsSpec)

/-- ITS FALSE NEIGHBOUR: 'it returns false'. Refute it at one input. -/
def fnWordsWrong : ChangeSpec := { name := "fnWords", fn := fun _ => fun
  | [d] => { results := [.lit (.bool false)], args := [d] }
  | _ => none }
def FnWordsWrongFalsely : Prop := fnWordsRow.holds Try.pinned (OpenSpec.ofChange fnWordsWrong)

/-- 'laws.FnSpanAt': WHATEVER THE INPUT: true; the input reads as it did. -/
def fnSpanAtSpec : ChangeSpec := { name := "fnSpanAt", fn := fun _ => fun
  | [d] => { results := [.lit (.bool true)], args := [d] }
  | _ => none }
def fnSpanAtRow : OpenClaim := { program := "ytbjcdogbhnadkad", sum := "94143ce28ee09ad85bcc4ea3c33213339dfa56a293f06ae4404a55ebdaf8ed56", func := "loop.example/colophon/laws.FnSpanAt", spec := "fnSpanAt", apart := false }
def FnSpanAtSaid : Prop := fnSpanAtRow.holds Try.pinned (OpenSpec.ofChange fnSpanAtSpec)

/-- ITS FALSE NEIGHBOUR: 'it returns false'. Refute it at one input. -/
def fnSpanAtWrong : ChangeSpec := { name := "fnSpanAt", fn := fun _ => fun
  | [d] => { results := [.lit (.bool false)], args := [d] }
  | _ => none }
def FnSpanAtWrongFalsely : Prop := fnSpanAtRow.holds Try.pinned (OpenSpec.ofChange fnSpanAtWrong)

/- THE SECOND FORM. 'bulk': how many values and letters a reading holds, each counted each time it is reached (what is shared counts as often as it is met; a slice's spare places count too). A statement '..UptoSaid' is the law's where the arguments, and the package variables that the reading takes, are together of bulk at most 1048576: NARROWER than '..Said'. Prove '..Said' where nothing that the law and all that it calls make is longer than what came in: it says more and counts as full. Else prove '..UptoSaid'. A law counts once. -/
mutual
def uptoBulk {H : Type} : DataW H → Nat
  | .lit (.string bytes) => bytes.length + 1
  | .lit _ => 1
  | .nil => 1
  | .ptr d => uptoBulk d + 1
  | .slice elems spare => uptoBulkAll elems + uptoBulkAll spare + 1
  | .agg parts => uptoBulkAll parts + 1
  | .iface _ d => uptoBulk d + 1
  | .map entries => uptoBulkEntries entries + 1
  | .held _ => 1
def uptoBulkAll {H : Type} : List (DataW H) → Nat
  | [] => 0
  | d :: r => uptoBulk d + uptoBulkAll r
def uptoBulkEntries {H : Type} : List (Lit × DataW H) → Nat
  | [] => 0
  | x :: r => uptoBulkEntry x + uptoBulkEntries r
def uptoBulkEntry {H : Type} : Lit × DataW H → Nat
  | (.string bytes, d) => bytes.length + uptoBulk d + 1
  | (_, d) => uptoBulk d + 1
 end
def uptoSmall : (H : Type) → List (DataW H) → Bool := fun _ ds => decide (uptoBulkAll ds ≤ 1048576)
def OpenSpec.upto (s : _root_.Go.ChangeSpec) : _root_.Go.OpenSpec := { _root_.Go.OpenSpec.ofChange s with cond := some uptoSmall }

/-- 'laws.FnBreaks', WHERE WHAT IT READS IS OF BULK AT MOST 1048576: true; the input reads as it did. -/
def fnBreaksUptoRow : OpenClaim := { program := "ytbjcdogbhnadkad", sum := "94143ce28ee09ad85bcc4ea3c33213339dfa56a293f06ae4404a55ebdaf8ed56", func := "loop.example/colophon/laws.FnBreaks", spec := "fnBreaks", unfollowed := true, recurses := true, apart := false, narrowed := true }
def FnBreaksUptoSaid : Prop := fnBreaksUptoRow.holds Try.pinned (OpenSpec.upto fnBreaksSpec)

/-- 'laws.FnBreakWords', WHERE WHAT IT READS IS OF BULK AT MOST 1048576: true; the input reads as it did. -/
def fnBreakWordsUptoRow : OpenClaim := { program := "ytbjcdogbhnadkad", sum := "94143ce28ee09ad85bcc4ea3c33213339dfa56a293f06ae4404a55ebdaf8ed56", func := "loop.example/colophon/laws.FnBreakWords", spec := "fnBreakWords", unfollowed := true, recurses := true, apart := false, narrowed := true }
def FnBreakWordsUptoSaid : Prop := fnBreakWordsUptoRow.holds Try.pinned (OpenSpec.upto fnBreakWordsSpec)

/-- 'laws.FnWords', WHERE WHAT IT READS IS OF BULK AT MOST 1048576: true; the input reads as it did. -/
def fnWordsUptoRow : OpenClaim := { program := "ytbjcdogbhnadkad", sum := "94143ce28ee09ad85bcc4ea3c33213339dfa56a293f06ae4404a55ebdaf8ed56", func := "loop.example/colophon/laws.FnWords", spec := "fnWords", unfollowed := true, recurses := true, apart := false, narrowed := true }
def FnWordsUptoSaid : Prop := fnWordsUptoRow.holds Try.pinned (OpenSpec.upto fnWordsSpec)

/-- 'laws.FnSpanAt', WHERE WHAT IT READS IS OF BULK AT MOST 1048576: true; the input reads as it did. -/
def fnSpanAtUptoRow : OpenClaim := { program := "ytbjcdogbhnadkad", sum := "94143ce28ee09ad85bcc4ea3c33213339dfa56a293f06ae4404a55ebdaf8ed56", func := "loop.example/colophon/laws.FnSpanAt", spec := "fnSpanAt", apart := false, narrowed := true }
def FnSpanAtUptoSaid : Prop := fnSpanAtUptoRow.holds Try.pinned (OpenSpec.upto fnSpanAtSpec)

end Rows
end Go.Proofs.Ytbjcdogbhnadkad
