/-
  No cell of these rows narrows 'for every input' (looked for: loops, veiled, ifaces, maps, wideKeys, modest, calm, conditions, laid).
  DERIVED. THE GIVEN ROWS OF THIS SEAT. 6 by the template 'for every input the law returns true; each argument reads behind the call as it read before'; 0 by the template 'total and deterministic' (their statements: YtbjcdogbhnadkacTotals.lean).
  GIVEN WITH THE SEED: the statements are not yours to turn. If you find one false, say at which input.
  Laid BY PROGRAM, IN A SANDBOX (cutbox-rows.mjs): the forced cells as the released guide's own fill.sh prints them over the translation 6f77e96c85d41bf5… (all of the seat's roots in one cut). By AI agents, Wed Nov 11 2026. No macro, syntax, notation, axiom, sorry.
-/
import Derived.Test.YtbjcdogbhnadkacChecked
import GoSem.Claim
import GoSem.ClaimJoined
import GoSem.ClaimMapViews
import Derived.JoinedTies
import Derived.KernelRfl
namespace Go.Proofs.Ytbjcdogbhnadkac
/- THE CELL 'sum', in the pinned program and in every row, IS THE sha256 OF THE DUMP (.gsa) THAT YtbjcdogbhnadkacProg.lean LOADS. Nothing in Lean hashes anything: it is a label: what it is worth is what the hold of that sum in a sandbox is worth. -/
noncomputable def Try.pinned : Pinned := { name := "ytbjcdogbhnadkac", sum := "6f77e96c85d41bf54bb9371c85261070caa4260021fb9047908faab1df840261", checked := Try.checked }
namespace Rows
def none {H : Type} : Left H := { results := [], args := [] }

/-- 'laws.FnLevelPlain': WHATEVER THE INPUT: true; the input reads as it did. -/
def fnLevelPlainSpec : ChangeSpec := { name := "fnLevelPlain", fn := fun _ => fun
  | [d] => { results := [.lit (.bool true)], args := [d] }
  | _ => none }
def fnLevelPlainRow : OpenClaim := { program := "ytbjcdogbhnadkac", sum := "6f77e96c85d41bf54bb9371c85261070caa4260021fb9047908faab1df840261", func := "loop.example/colophon/laws.FnLevelPlain", spec := "fnLevelPlain", apart := false }
def FnLevelPlainSaid : Prop := fnLevelPlainRow.holds Try.pinned (OpenSpec.ofChange fnLevelPlainSpec)

/-- ITS FALSE NEIGHBOUR: 'it returns false'. Refute it at one input. -/
def fnLevelPlainWrong : ChangeSpec := { name := "fnLevelPlain", fn := fun _ => fun
  | [d] => { results := [.lit (.bool false)], args := [d] }
  | _ => none }
def FnLevelPlainWrongFalsely : Prop := fnLevelPlainRow.holds Try.pinned (OpenSpec.ofChange fnLevelPlainWrong)

/-- 'laws.FnLevelMates': WHATEVER THE INPUT: true; the input reads as it did. -/
def fnLevelMatesSpec : ChangeSpec := { name := "fnLevelMates", fn := fun _ => fun
  | [d] => { results := [.lit (.bool true)], args := [d] }
  | _ => none }
def fnLevelMatesRow : OpenClaim := { program := "ytbjcdogbhnadkac", sum := "6f77e96c85d41bf54bb9371c85261070caa4260021fb9047908faab1df840261", func := "loop.example/colophon/laws.FnLevelMates", spec := "fnLevelMates", unfollowed := true, recurses := true, apart := false }
def FnLevelMatesSaid : Prop := fnLevelMatesRow.holds Try.pinned (OpenSpec.ofChange fnLevelMatesSpec)

/-- ITS FALSE NEIGHBOUR: 'it returns false'. Refute it at one input. -/
def fnLevelMatesWrong : ChangeSpec := { name := "fnLevelMates", fn := fun _ => fun
  | [d] => { results := [.lit (.bool false)], args := [d] }
  | _ => none }
def FnLevelMatesWrongFalsely : Prop := fnLevelMatesRow.holds Try.pinned (OpenSpec.ofChange fnLevelMatesWrong)

/-- 'laws.FnOrder': WHATEVER THE INPUT: true; the input reads as it did. -/
def fnOrderSpec : ChangeSpec := { name := "fnOrder", fn := fun _ => fun
  | [d] => { results := [.lit (.bool true)], args := [d] }
  | _ => none }
def fnOrderRow : OpenClaim := { program := "ytbjcdogbhnadkac", sum := "6f77e96c85d41bf54bb9371c85261070caa4260021fb9047908faab1df840261", func := "loop.example/colophon/laws.FnOrder", spec := "fnOrder", unfollowed := true, recurses := true, apart := false }
def FnOrderSaid : Prop := fnOrderRow.holds Try.pinned (OpenSpec.ofChange fnOrderSpec)

/-- ITS FALSE NEIGHBOUR: 'it returns false'. Refute it at one input. -/
def fnOrderWrong : ChangeSpec := { name := "fnOrder", fn := fun _ => fun
  | [d] => { results := [.lit (.bool false)], args := [d] }
  | _ => none }
def FnOrderWrongFalsely : Prop := fnOrderRow.holds Try.pinned (OpenSpec.ofChange fnOrderWrong)

/-- 'laws.FnOrderSide': WHATEVER THE INPUT: true; the input reads as it did. -/
def fnOrderSideSpec : ChangeSpec := { name := "fnOrderSide", fn := fun _ => fun
  | [d] => { results := [.lit (.bool true)], args := [d] }
  | _ => none }
def fnOrderSideRow : OpenClaim := { program := "ytbjcdogbhnadkac", sum := "6f77e96c85d41bf54bb9371c85261070caa4260021fb9047908faab1df840261", func := "loop.example/colophon/laws.FnOrderSide", spec := "fnOrderSide", unfollowed := true, recurses := true, apart := false }
def FnOrderSideSaid : Prop := fnOrderSideRow.holds Try.pinned (OpenSpec.ofChange fnOrderSideSpec)

/-- ITS FALSE NEIGHBOUR: 'it returns false'. Refute it at one input. -/
def fnOrderSideWrong : ChangeSpec := { name := "fnOrderSide", fn := fun _ => fun
  | [d] => { results := [.lit (.bool false)], args := [d] }
  | _ => none }
def FnOrderSideWrongFalsely : Prop := fnOrderSideRow.holds Try.pinned (OpenSpec.ofChange fnOrderSideWrong)

/-- 'laws.FnOrderUp': WHATEVER THE INPUT: true; the input reads as it did. -/
def fnOrderUpSpec : ChangeSpec := { name := "fnOrderUp", fn := fun _ => fun
  | [d] => { results := [.lit (.bool true)], args := [d] }
  | _ => none }
def fnOrderUpRow : OpenClaim := { program := "ytbjcdogbhnadkac", sum := "6f77e96c85d41bf54bb9371c85261070caa4260021fb9047908faab1df840261", func := "loop.example/colophon/laws.FnOrderUp", spec := "fnOrderUp", unfollowed := true, recurses := true, apart := false }
def FnOrderUpSaid : Prop := fnOrderUpRow.holds Try.pinned (OpenSpec.ofChange fnOrderUpSpec)

/-- ITS FALSE NEIGHBOUR: 'it returns false'. Refute it at one input. -/
def fnOrderUpWrong : ChangeSpec := { name := "fnOrderUp", fn := fun _ => fun
  | [d] => { results := [.lit (.bool false)], args := [d] }
  | _ => none }
def FnOrderUpWrongFalsely : Prop := fnOrderUpRow.holds Try.pinned (OpenSpec.ofChange fnOrderUpWrong)

/-- 'laws.FnRuns': WHATEVER THE INPUT: true; the input reads as it did. -/
def fnRunsSpec : ChangeSpec := { name := "fnRuns", fn := fun _ => fun
  | [d] => { results := [.lit (.bool true)], args := [d] }
  | _ => none }
def fnRunsRow : OpenClaim := { program := "ytbjcdogbhnadkac", sum := "6f77e96c85d41bf54bb9371c85261070caa4260021fb9047908faab1df840261", func := "loop.example/colophon/laws.FnRuns", spec := "fnRuns", apart := false }
def FnRunsSaid : Prop := fnRunsRow.holds Try.pinned (OpenSpec.ofChange fnRunsSpec)

/-- ITS FALSE NEIGHBOUR: 'it returns false'. Refute it at one input. -/
def fnRunsWrong : ChangeSpec := { name := "fnRuns", fn := fun _ => fun
  | [d] => { results := [.lit (.bool false)], args := [d] }
  | _ => none }
def FnRunsWrongFalsely : Prop := fnRunsRow.holds Try.pinned (OpenSpec.ofChange fnRunsWrong)

/- THE SECOND FORM. 'bulk': how many values and letters a reading holds, each counted each time it is reached (what is shared counts as often as it is met; a slice's spare places count too). A statement '..UptoSaid' is the law's where the arguments, and the package variables that the reading takes, are together of bulk at most 1048576: NARROWER than '..Said'. Prove '..Said' where nothing that the law and all that it calls make is longer than what came in: it says more and counts as full. Else prove '..UptoSaid'. A law counts once. -/
mutual
def uptoBulk {H : Type} : DataW H → Nat
  | .lit (.string bytes) => bytes.length + 1
  | .lit _ => 1
  | .nil => 1
  | .ptr d => uptoBulk d + 1
  | .slice elems spare => uptoBulkAll elems + uptoBulkAll spare + 1
  | .agg parts => uptoBulkAll parts + 1
  | .iface _ d => uptoBulk d + 1
  | .map entries => uptoBulkEntries entries + 1
  | .held _ => 1
def uptoBulkAll {H : Type} : List (DataW H) → Nat
  | [] => 0
  | d :: r => uptoBulk d + uptoBulkAll r
def uptoBulkEntries {H : Type} : List (Lit × DataW H) → Nat
  | [] => 0
  | x :: r => uptoBulkEntry x + uptoBulkEntries r
def uptoBulkEntry {H : Type} : Lit × DataW H → Nat
  | (.string bytes, d) => bytes.length + uptoBulk d + 1
  | (_, d) => uptoBulk d + 1
 end
def uptoSmall : (H : Type) → List (DataW H) → Bool := fun _ ds => decide (uptoBulkAll ds ≤ 1048576)
def OpenSpec.upto (s : _root_.Go.ChangeSpec) : _root_.Go.OpenSpec := { _root_.Go.OpenSpec.ofChange s with cond := some uptoSmall }

/-- 'laws.FnLevelPlain', WHERE WHAT IT READS IS OF BULK AT MOST 1048576: true; the input reads as it did. -/
def fnLevelPlainUptoRow : OpenClaim := { program := "ytbjcdogbhnadkac", sum := "6f77e96c85d41bf54bb9371c85261070caa4260021fb9047908faab1df840261", func := "loop.example/colophon/laws.FnLevelPlain", spec := "fnLevelPlain", apart := false, narrowed := true }
def FnLevelPlainUptoSaid : Prop := fnLevelPlainUptoRow.holds Try.pinned (OpenSpec.upto fnLevelPlainSpec)

/-- 'laws.FnLevelMates', WHERE WHAT IT READS IS OF BULK AT MOST 1048576: true; the input reads as it did. -/
def fnLevelMatesUptoRow : OpenClaim := { program := "ytbjcdogbhnadkac", sum := "6f77e96c85d41bf54bb9371c85261070caa4260021fb9047908faab1df840261", func := "loop.example/colophon/laws.FnLevelMates", spec := "fnLevelMates", unfollowed := true, recurses := true, apart := false, narrowed := true }
def FnLevelMatesUptoSaid : Prop := fnLevelMatesUptoRow.holds Try.pinned (OpenSpec.upto fnLevelMatesSpec)

/-- 'laws.FnOrder', WHERE WHAT IT READS IS OF BULK AT MOST 1048576: true; the input reads as it did. -/
def fnOrderUptoRow : OpenClaim := { program := "ytbjcdogbhnadkac", sum := "6f77e96c85d41bf54bb9371c85261070caa4260021fb9047908faab1df840261", func := "loop.example/colophon/laws.FnOrder", spec := "fnOrder", unfollowed := true, recurses := true, apart := false, narrowed := true }
def FnOrderUptoSaid : Prop := fnOrderUptoRow.holds Try.pinned (OpenSpec.upto fnOrderSpec)

/-- 'laws.FnOrderSide', WHERE WHAT IT READS IS OF BULK AT MOST 1048576: true; the input reads as it did. -/
def fnOrderSideUptoRow : OpenClaim := { program := "ytbjcdogbhnadkac", sum := "6f77e96c85d41bf54bb9371c85261070caa4260021fb9047908faab1df840261", func := "loop.example/colophon/laws.FnOrderSide", spec := "fnOrderSide", unfollowed := true, recurses := true, apart := false, narrowed := true }
def FnOrderSideUptoSaid : Prop := fnOrderSideUptoRow.holds Try.pinned (OpenSpec.upto fnOrderSideSpec)

/-- 'laws.FnOrderUp', WHERE WHAT IT READS IS OF BULK AT MOST 1048576: true; the input reads as it did. -/
def fnOrderUpUptoRow : OpenClaim := { program := "ytbjcdogbhnadkac", sum := "6f77e96c85d41bf54bb9371c85261070caa4260021fb9047908faab1df840261", func := "loop.example/colophon/laws.FnOrderUp", spec := "fnOrderUp", unfollowed := true, recurses := true, apart := false, narrowed := true }
def FnOrderUpUptoSaid : Prop := fnOrderUpUptoRow.holds Try.pinned (OpenSpec.upto fnOrderUpSpec)

/-- 'laws.FnRuns', WHERE WHAT IT READS IS OF BULK AT MOST 1048576: true; the input reads as it did. -/
def fnRunsUptoRow : OpenClaim := { program := "ytbjcdogbhnadkac", sum := "6f77e96c85d41bf54bb9371c85261070caa4260021fb9047908faab1df840261", func := "loop.example/colophon/laws.FnRuns", spec := "fnRuns", apart := false, narrowed := true }
def FnRunsUptoSaid : Prop := fnRunsUptoRow.holds Try.pinned (OpenSpec.upto fnRunsSpec)

end Rows
end Go.Proofs.Ytbjcdogbhnadkac
