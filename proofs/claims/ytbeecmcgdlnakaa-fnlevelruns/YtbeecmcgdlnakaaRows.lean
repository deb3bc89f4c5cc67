/-
  No cell of these rows narrows 'for every input' (looked for: loops, veiled, ifaces, maps, wideKeys, modest, calm, conditions, laid).
  DERIVED. THE GIVEN ROWS OF THIS SEAT. 6 by the template 'for every input the law returns true; each argument reads behind the call as it read before'; 0 by the template 'total and deterministic' (their statements: YtbeecmcgdlnakaaTotals.lean).
  GIVEN WITH THE SEED: the statements are not yours to turn. If you find one false, say at which input.
  Laid BY PROGRAM, IN A SANDBOX (cutbox-rows.mjs): the forced cells as the released guide's own fill.sh prints them over the translation 067ab7f36dfa8a57… (all of the seat's roots in one cut). By AI agents, Wed Nov 11 2026. No macro, syntax, notation, axiom, sorry.
-/
import Derived.Test.YtbeecmcgdlnakaaChecked
import GoSem.Claim
import GoSem.ClaimJoined
import GoSem.ClaimMapViews
import Derived.JoinedTies
import Derived.KernelRfl
namespace Go.Proofs.Ytbeecmcgdlnakaa
/- THE CELL 'sum', in the pinned program and in every row, IS THE sha256 OF THE DUMP (.gsa) THAT YtbeecmcgdlnakaaProg.lean LOADS. Nothing in Lean hashes anything: it is a label: what it is worth is what the hold of that sum in a sandbox is worth. -/
noncomputable def Try.pinned : Pinned := { name := "ytbeecmcgdlnakaa", sum := "067ab7f36dfa8a57168493ba2b852d6f7d0903b9d886106feaf002a5f3ce076d", checked := Try.checked }
namespace Rows
def none {H : Type} : Left H := { results := [], args := [] }

/-- 'laws.FnLevelsTold': WHATEVER THE INPUT: true; the input reads as it did. -/
def fnLevelsToldSpec : ChangeSpec := { name := "fnLevelsTold", fn := fun _ => fun
  | [d] => { results := [.lit (.bool true)], args := [d] }
  | _ => none }
def fnLevelsToldRow : OpenClaim := { program := "ytbeecmcgdlnakaa", sum := "067ab7f36dfa8a57168493ba2b852d6f7d0903b9d886106feaf002a5f3ce076d", func := "loop.example/colophon/laws.FnLevelsTold", spec := "fnLevelsTold", apart := false }
def FnLevelsToldSaid : Prop := fnLevelsToldRow.holds Try.pinned (OpenSpec.ofChange fnLevelsToldSpec)

/-- ITS FALSE NEIGHBOUR: 'it returns false'. Refute it at one input. -/
def fnLevelsToldWrong : ChangeSpec := { name := "fnLevelsTold", fn := fun _ => fun
  | [d] => { results := [.lit (.bool false)], args := [d] }
  | _ => none }
def FnLevelsToldWrongFalsely : Prop := fnLevelsToldRow.holds Try.pinned (OpenSpec.ofChange fnLevelsToldWrong)

/-- 'laws.FnLevelRuns': WHATEVER THE INPUT: true; the input reads as it did. -/
def fnLevelRunsSpec : ChangeSpec := { name := "fnLevelRuns", fn := fun _ => fun
  | [d] => { results := [.lit (.bool true)], args := [d] }
  | _ => none }
def fnLevelRunsRow : OpenClaim := { program := "ytbeecmcgdlnakaa", sum := "067ab7f36dfa8a57168493ba2b852d6f7d0903b9d886106feaf002a5f3ce076d", func := "loop.example/colophon/laws.FnLevelRuns", spec := "fnLevelRuns", apart := false }
def FnLevelRunsSaid : Prop := fnLevelRunsRow.holds Try.pinned (OpenSpec.ofChange fnLevelRunsSpec)

/-- ITS FALSE NEIGHBOUR: 'it returns false'. Refute it at one input. -/
def fnLevelRunsWrong : ChangeSpec := { name := "fnLevelRuns", fn := fun _ => fun
  | [d] => { results := [.lit (.bool false)], args := [d] }
  | _ => none }
def FnLevelRunsWrongFalsely : Prop := fnLevelRunsRow.holds Try.pinned (OpenSpec.ofChange fnLevelRunsWrong)

/-- 'laws.FnLevelMates': WHATEVER THE INPUT: true; the input reads as it did. -/
def fnLevelMatesSpec : ChangeSpec := { name := "fnLevelMates", fn := fun _ => fun
  | [d] => { results := [.lit (.bool true)], args := [d] }
  | _ => none }
def fnLevelMatesRow : OpenClaim := { program := "ytbeecmcgdlnakaa", sum := "067ab7f36dfa8a57168493ba2b852d6f7d0903b9d886106feaf002a5f3ce076d", func := "loop.example/colophon/laws.FnLevelMates", spec := "fnLevelMates", unfollowed := true, recurses := true, apart := false }
def FnLevelMatesSaid : Prop := fnLevelMatesRow.holds Try.pinned (OpenSpec.ofChange fnLevelMatesSpec)

/-- ITS FALSE NEIGHBOUR: 'it returns false'. Refute it at one input. -/
def fnLevelMatesWrong : ChangeSpec := { name := "fnLevelMates", fn := fun _ => fun
  | [d] => { results := [.lit (.bool false)], args := [d] }
  | _ => none }
def FnLevelMatesWrongFalsely : Prop := fnLevelMatesRow.holds Try.pinned (OpenSpec.ofChange fnLevelMatesWrong)

/-- 'laws.FnExactLevelsTold': WHATEVER THE INPUT: true; the input reads as it did. -/
def fnExactLevelsToldSpec : ChangeSpec := { name := "fnExactLevelsTold", fn := fun _ => fun
  | [d1, d2] => { results := [.lit (.bool true)], args := [d1, d2] }
  | _ => none }
def fnExactLevelsToldRow : OpenClaim := { program := "ytbeecmcgdlnakaa", sum := "067ab7f36dfa8a57168493ba2b852d6f7d0903b9d886106feaf002a5f3ce076d", func := "loop.example/colophon/laws.FnExactLevelsTold", spec := "fnExactLevelsTold", apart := false }
def FnExactLevelsToldSaid : Prop := fnExactLevelsToldRow.holds Try.pinned (OpenSpec.ofChange fnExactLevelsToldSpec)

/-- ITS FALSE NEIGHBOUR: 'it returns false'. Refute it at one input. -/
def fnExactLevelsToldWrong : ChangeSpec := { name := "fnExactLevelsTold", fn := fun _ => fun
  | [d1, d2] => { results := [.lit (.bool false)], args := [d1, d2] }
  | _ => none }
def FnExactLevelsToldWrongFalsely : Prop := fnExactLevelsToldRow.holds Try.pinned (OpenSpec.ofChange fnExactLevelsToldWrong)

/-- 'laws.FnExactLevelRuns': WHATEVER THE INPUT: true; the input reads as it did. -/
def fnExactLevelRunsSpec : ChangeSpec := { name := "fnExactLevelRuns", fn := fun _ => fun
  | [d1, d2] => { results := [.lit (.bool true)], args := [d1, d2] }
  | _ => none }
def fnExactLevelRunsRow : OpenClaim := { program := "ytbeecmcgdlnakaa", sum := "067ab7f36dfa8a57168493ba2b852d6f7d0903b9d886106feaf002a5f3ce076d", func := "loop.example/colophon/laws.FnExactLevelRuns", spec := "fnExactLevelRuns", apart := false }
def FnExactLevelRunsSaid : Prop := fnExactLevelRunsRow.holds Try.pinned (OpenSpec.ofChange fnExactLevelRunsSpec)

/-- ITS FALSE NEIGHBOUR: 'it returns false'. Refute it at one input. -/
def fnExactLevelRunsWrong : ChangeSpec := { name := "fnExactLevelRuns", fn := fun _ => fun
  | [d1, d2] => { results := [.lit (.bool false)], args := [d1, d2] }
  | _ => none }
def FnExactLevelRunsWrongFalsely : Prop := fnExactLevelRunsRow.holds Try.pinned (OpenSpec.ofChange fnExactLevelRunsWrong)

/-- 'laws.FnExactLevelMates': WHATEVER THE INPUT: true; the input reads as it did. -/
def fnExactLevelMatesSpec : ChangeSpec := { name := "fnExactLevelMates", fn := fun _ => fun
  | [d1, d2] => { results := [.lit (.bool true)], args := [d1, d2] }
  | _ => none }
def fnExactLevelMatesRow : OpenClaim := { program := "ytbeecmcgdlnakaa", sum := "067ab7f36dfa8a57168493ba2b852d6f7d0903b9d886106feaf002a5f3ce076d", func := "loop.example/colophon/laws.FnExactLevelMates", spec := "fnExactLevelMates", unfollowed := true, recurses := true, apart := false }
def FnExactLevelMatesSaid : Prop := fnExactLevelMatesRow.holds Try.pinned (OpenSpec.ofChange fnExactLevelMatesSpec)

/-- ITS FALSE NEIGHBOUR: 'it returns false'. Refute it at one input. -/
def fnExactLevelMatesWrong : ChangeSpec := { name := "fnExactLevelMates", fn := fun _ => fun
  | [d1, d2] => { results := [.lit (.bool false)], args := [d1, d2] }
  | _ => none }
def FnExactLevelMatesWrongFalsely : Prop := fnExactLevelMatesRow.holds Try.pinned (OpenSpec.ofChange fnExactLevelMatesWrong)

/- THE SECOND FORM. 'bulk': how many values and letters a reading holds, each counted each time it is reached (what is shared counts as often as it is met; a slice's spare places count too). A statement '..UptoSaid' is the law's where the arguments, and the package variables that the reading takes, are together of bulk at most 1048576: NARROWER than '..Said'. Prove '..Said' where nothing that the law and all that it calls make is longer than what came in: it says more and counts as full. Else prove '..UptoSaid'. A law counts once. -/
mutual
def uptoBulk {H : Type} : DataW H → Nat
  | .lit (.string bytes) => bytes.length + 1
  | .lit _ => 1
  | .nil => 1
  | .ptr d => uptoBulk d + 1
  | .slice elems spare => uptoBulkAll elems + uptoBulkAll spare + 1
  | .agg parts => uptoBulkAll parts + 1
  | .iface _ d => uptoBulk d + 1
  | .map entries => uptoBulkEntries entries + 1
  | .held _ => 1
def uptoBulkAll {H : Type} : List (DataW H) → Nat
  | [] => 0
  | d :: r => uptoBulk d + uptoBulkAll r
def uptoBulkEntries {H : Type} : List (Lit × DataW H) → Nat
  | [] => 0
  | x :: r => uptoBulkEntry x + uptoBulkEntries r
def uptoBulkEntry {H : Type} : Lit × DataW H → Nat
  | (.string bytes, d) => bytes.length + uptoBulk d + 1
  | (_, d) => uptoBulk d + 1
 end
def uptoSmall : (H : Type) → List (DataW H) → Bool := fun _ ds => decide (uptoBulkAll ds ≤ 1048576)
def OpenSpec.upto (s : _root_.Go.ChangeSpec) : _root_.Go.OpenSpec := { _root_.Go.OpenSpec.ofChange s with cond := some uptoSmall }

/-- 'laws.FnLevelsTold', WHERE WHAT IT READS IS OF BULK AT MOST 1048576: true; the input reads as it did. -/
def fnLevelsToldUptoRow : OpenClaim := { program := "ytbeecmcgdlnakaa", sum := "067ab7f36dfa8a57168493ba2b852d6f7d0903b9d886106feaf002a5f3ce076d", func := "loop.example/colophon/laws.FnLevelsTold", spec := "fnLevelsTold", apart := false, narrowed := true }
def FnLevelsToldUptoSaid : Prop := fnLevelsToldUptoRow.holds Try.pinned (OpenSpec.upto fnLevelsToldSpec)

/-- 'laws.FnLevelRuns', WHERE WHAT IT READS IS OF BULK AT MOST 1048576: true; the input reads as it did. -/
def fnLevelRunsUptoRow : OpenClaim := { program := "ytbeecmcgdlnakaa", sum := "067ab7f36dfa8a57168493ba2b852d6f7d0903b9d886106feaf002a5f3ce076d", func := "loop.example/colophon/laws.FnLevelRuns", spec := "fnLevelRuns", apart := false, narrowed := true }
def FnLevelRunsUptoSaid : Prop := fnLevelRunsUptoRow.holds Try.pinned (OpenSpec.upto fnLevelRunsSpec)

/-- 'laws.FnLevelMates', WHERE WHAT IT READS IS OF BULK AT MOST 1048576: true; the input reads as it did. -/
def fnLevelMatesUptoRow : OpenClaim := { program := "ytbeecmcgdlnakaa", sum := "067ab7f36dfa8a57168493ba2b852d6f7d0903b9d886106feaf002a5f3ce076d", func := "loop.example/colophon/laws.FnLevelMates", spec := "fnLevelMates", unfollowed := true, recurses := true, apart := false, narrowed := true }
def FnLevelMatesUptoSaid : Prop := fnLevelMatesUptoRow.holds Try.pinned (OpenSpec.upto fnLevelMatesSpec)

/-- 'laws.FnExactLevelsTold', WHERE WHAT IT READS IS OF BULK AT MOST 1048576: true; the input reads as it did. -/
def fnExactLevelsToldUptoRow : OpenClaim := { program := "ytbeecmcgdlnakaa", sum := "067ab7f36dfa8a57168493ba2b852d6f7d0903b9d886106feaf002a5f3ce076d", func := "loop.example/colophon/laws.FnExactLevelsTold", spec := "fnExactLevelsTold", apart := false, narrowed := true }
def FnExactLevelsToldUptoSaid : Prop := fnExactLevelsToldUptoRow.holds Try.pinned (OpenSpec.upto fnExactLevelsToldSpec)

/-- 'laws.FnExactLevelRuns', WHERE WHAT IT READS IS OF BULK AT MOST 1048576: true; the input reads as it did. -/
def fnExactLevelRunsUptoRow : OpenClaim := { program := "ytbeecmcgdlnakaa", sum := "067ab7f36dfa8a57168493ba2b852d6f7d0903b9d886106feaf002a5f3ce076d", func := "loop.example/colophon/laws.FnExactLevelRuns", spec := "fnExactLevelRuns", apart := false, narrowed := true }
def FnExactLevelRunsUptoSaid : Prop := fnExactLevelRunsUptoRow.holds Try.pinned (OpenSpec.upto fnExactLevelRunsSpec)

/-- 'laws.FnExactLevelMates', WHERE WHAT IT READS IS OF BULK AT MOST 1048576: true; the input reads as it did. -/
def fnExactLevelMatesUptoRow : OpenClaim := { program := "ytbeecmcgdlnakaa", sum := "067ab7f36dfa8a57168493ba2b852d6f7d0903b9d886106feaf002a5f3ce076d", func := "loop.example/colophon/laws.FnExactLevelMates", spec := "fnExactLevelMates", unfollowed := true, recurses := true, apart := false, narrowed := true }
def FnExactLevelMatesUptoSaid : Prop := fnExactLevelMatesUptoRow.holds Try.pinned (OpenSpec.upto fnExactLevelMatesSpec)

end Rows
end Go.Proofs.Ytbeecmcgdlnakaa
