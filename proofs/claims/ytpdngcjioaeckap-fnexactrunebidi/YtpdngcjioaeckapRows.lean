/-
  No cell of these rows narrows 'for every input' (looked for: loops, veiled, ifaces, maps, wideKeys, modest, calm, conditions, laid).
  DERIVED. THE GIVEN ROWS OF THIS SEAT. 3 by the template 'for every input the law returns true; each argument reads behind the call as it read before'; 0 by the template 'total and deterministic' (their statements: YtpdngcjioaeckapTotals.lean).
  GIVEN WITH THE SEED: the statements are not yours to turn. If you find one false, say at which input.
  Laid BY PROGRAM, IN A SANDBOX (cutbox-rows.mjs): the forced cells as the released guide's own fill.sh prints them over the translation 7e7d461b99be6eda… (all of the seat's roots in one cut). By AI agents, Wed Nov 11 2026. No macro, syntax, notation, axiom, sorry.
-/
import Derived.Test.YtpdngcjioaeckapChecked
import GoSem.Claim
import GoSem.ClaimJoined
import GoSem.ClaimMapViews
import Derived.JoinedTies
import Derived.KernelRfl
namespace Go.Proofs.Ytpdngcjioaeckap
/- THE CELL 'sum', in the pinned program and in every row, IS THE sha256 OF THE DUMP (.gsa) THAT YtpdngcjioaeckapProg.lean LOADS. Nothing in Lean hashes anything: it is a label: what it is worth is what the hold of that sum in a sandbox is worth. -/
noncomputable def Try.pinned : Pinned := { name := "ytpdngcjioaeckap", sum := "7e7d461b99be6eda55c094bd14fa18baea67155b7cafed91dd18056d0f3c8f91", checked := Try.checked }
namespace Rows
def none {H : Type} : Left H := { results := [], args := [] }

/-- 'laws.FnExactUtf8Put': WHATEVER THE INPUT: true; the input reads as it did. -/
def fnExactUtf8PutSpec : ChangeSpec := { name := "fnExactUtf8Put", fn := fun _ => fun
  | [d] => { results := [.lit (.bool true)], args := [d] }
  | _ => none }
def fnExactUtf8PutRow : OpenClaim := { program := "ytpdngcjioaeckap", sum := "7e7d461b99be6eda55c094bd14fa18baea67155b7cafed91dd18056d0f3c8f91", func := "loop.example/colophon/laws.FnExactUtf8Put", spec := "fnExactUtf8Put", inPlace := ["internal/abi.NoEscape"], apart := false }
def FnExactUtf8PutSaid : Prop := fnExactUtf8PutRow.holds Try.pinned (OpenSpec.ofChange fnExactUtf8PutSpec)

/-- ITS FALSE NEIGHBOUR: 'it returns false'. Refute it at one input. -/
def fnExactUtf8PutWrong : ChangeSpec := { name := "fnExactUtf8Put", fn := fun _ => fun
  | [d] => { results := [.lit (.bool false)], args := [d] }
  | _ => none }
def FnExactUtf8PutWrongFalsely : Prop := fnExactUtf8PutRow.holds Try.pinned (OpenSpec.ofChange fnExactUtf8PutWrong)

/-- 'laws.FnExactRuneBidi': WHATEVER THE INPUT: true; the input reads as it did. -/
def fnExactRuneBidiSpec : ChangeSpec := { name := "fnExactRuneBidi", fn := fun _ => fun
  | [d] => { results := [.lit (.bool true)], args := [d] }
  | _ => none }
def fnExactRuneBidiRow : OpenClaim := { program := "ytpdngcjioaeckap", sum := "7e7d461b99be6eda55c094bd14fa18baea67155b7cafed91dd18056d0f3c8f91", func := "loop.example/colophon/laws.FnExactRuneBidi", spec := "fnExactRuneBidi", apart := false }
def FnExactRuneBidiSaid : Prop := fnExactRuneBidiRow.holds Try.pinned (OpenSpec.ofChange fnExactRuneBidiSpec)

/-- ITS FALSE NEIGHBOUR: 'it returns false'. Refute it at one input. -/
def fnExactRuneBidiWrong : ChangeSpec := { name := "fnExactRuneBidi", fn := fun _ => fun
  | [d] => { results := [.lit (.bool false)], args := [d] }
  | _ => none }
def FnExactRuneBidiWrongFalsely : Prop := fnExactRuneBidiRow.holds Try.pinned (OpenSpec.ofChange fnExactRuneBidiWrong)

/-- 'laws.FnExactRuneWide': WHATEVER THE INPUT: true; the input reads as it did. -/
def fnExactRuneWideSpec : ChangeSpec := { name := "fnExactRuneWide", fn := fun _ => fun
  | [d] => { results := [.lit (.bool true)], args := [d] }
  | _ => none }
def fnExactRuneWideRow : OpenClaim := { program := "ytpdngcjioaeckap", sum := "7e7d461b99be6eda55c094bd14fa18baea67155b7cafed91dd18056d0f3c8f91", func := "loop.example/colophon/laws.FnExactRuneWide", spec := "fnExactRuneWide", apart := false }
def FnExactRuneWideSaid : Prop := fnExactRuneWideRow.holds Try.pinned (OpenSpec.ofChange fnExactRuneWideSpec)

/-- ITS FALSE NEIGHBOUR: 'it returns false'. Refute it at one input. -/
def fnExactRuneWideWrong : ChangeSpec := { name := "fnExactRuneWide", fn := fun _ => fun
  | [d] => { results := [.lit (.bool false)], args := [d] }
  | _ => none }
def FnExactRuneWideWrongFalsely : Prop := fnExactRuneWideRow.holds Try.pinned (OpenSpec.ofChange fnExactRuneWideWrong)

/- THE SECOND FORM. 'bulk': how many values and letters a reading holds, each counted each time it is reached (what is shared counts as often as it is met; a slice's spare places count too). A statement '..UptoSaid' is the law's where the arguments, and the package variables that the reading takes, are together of bulk at most 1048576: NARROWER than '..Said'. Prove '..Said' where nothing that the law and all that it calls make is longer than what came in: it says more and counts as full. Else prove '..UptoSaid'. A law counts once. -/
mutual
def uptoBulk {H : Type} : DataW H → Nat
  | .lit (.string bytes) => bytes.length + 1
  | .lit _ => 1
  | .nil => 1
  | .ptr d => uptoBulk d + 1
  | .slice elems spare => uptoBulkAll elems + uptoBulkAll spare + 1
  | .agg parts => uptoBulkAll parts + 1
  | .iface _ d => uptoBulk d + 1
  | .map entries => uptoBulkEntries entries + 1
  | .held _ => 1
def uptoBulkAll {H : Type} : List (DataW H) → Nat
  | [] => 0
  | d :: r => uptoBulk d + uptoBulkAll r
def uptoBulkEntries {H : Type} : List (Lit × DataW H) → Nat
  | [] => 0
  | x :: r => uptoBulkEntry x + uptoBulkEntries r
def uptoBulkEntry {H : Type} : Lit × DataW H → Nat
  | (.string bytes, d) => bytes.length + uptoBulk d + 1
  | (_, d) => uptoBulk d + 1
 end
def uptoSmall : (H : Type) → List (DataW H) → Bool := fun _ ds => decide (uptoBulkAll ds ≤ 1048576)
def OpenSpec.upto (s : _root_.Go.ChangeSpec) : _root_.Go.OpenSpec := { _root_.Go.OpenSpec.ofChange s with cond := some uptoSmall }

/-- 'laws.FnExactUtf8Put', WHERE WHAT IT READS IS OF BULK AT MOST 1048576: true; the input reads as it did. -/
def fnExactUtf8PutUptoRow : OpenClaim := { program := "ytpdngcjioaeckap", sum := "7e7d461b99be6eda55c094bd14fa18baea67155b7cafed91dd18056d0f3c8f91", func := "loop.example/colophon/laws.FnExactUtf8Put", spec := "fnExactUtf8Put", inPlace := ["internal/abi.NoEscape"], apart := false, narrowed := true }
def FnExactUtf8PutUptoSaid : Prop := fnExactUtf8PutUptoRow.holds Try.pinned (OpenSpec.upto fnExactUtf8PutSpec)

/-- 'laws.FnExactRuneBidi', WHERE WHAT IT READS IS OF BULK AT MOST 1048576: true; the input reads as it did. -/
def fnExactRuneBidiUptoRow : OpenClaim := { program := "ytpdngcjioaeckap", sum := "7e7d461b99be6eda55c094bd14fa18baea67155b7cafed91dd18056d0f3c8f91", func := "loop.example/colophon/laws.FnExactRuneBidi", spec := "fnExactRuneBidi", apart := false, narrowed := true }
def FnExactRuneBidiUptoSaid : Prop := fnExactRuneBidiUptoRow.holds Try.pinned (OpenSpec.upto fnExactRuneBidiSpec)

/-- 'laws.FnExactRuneWide', WHERE WHAT IT READS IS OF BULK AT MOST 1048576: true; the input reads as it did. -/
def fnExactRuneWideUptoRow : OpenClaim := { program := "ytpdngcjioaeckap", sum := "7e7d461b99be6eda55c094bd14fa18baea67155b7cafed91dd18056d0f3c8f91", func := "loop.example/colophon/laws.FnExactRuneWide", spec := "fnExactRuneWide", apart := false, narrowed := true }
def FnExactRuneWideUptoSaid : Prop := fnExactRuneWideUptoRow.holds Try.pinned (OpenSpec.upto fnExactRuneWideSpec)

end Rows
end Go.Proofs.Ytpdngcjioaeckap
