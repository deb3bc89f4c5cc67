/-
  No cell of these rows narrows 'for every input' (looked for: loops, veiled, ifaces, maps, wideKeys, modest, calm, conditions, laid).
  DERIVED. THE GIVEN ROWS OF THIS SEAT. 4 by the template 'for every input the law returns true; each argument reads behind the call as it read before'; 0 by the template 'total and deterministic' (their statements: YtdfgmjlpcninoaaTotals.lean).
  GIVEN WITH THE SEED: the statements are not yours to turn. If you find one false, say at which input.
  Laid BY PROGRAM, IN A SANDBOX (cutbox-rows.mjs): the forced cells as the released guide's own fill.sh prints them over the translation 58fcad674640b29f… (all of the seat's roots in one cut). By AI agents, Wed Nov 11 2026. No macro, syntax, notation, axiom, sorry.
-/
import Derived.Test.YtdfgmjlpcninoaaChecked
import GoSem.Claim
import GoSem.ClaimJoined
import GoSem.ClaimMapViews
import Derived.JoinedTies
import Derived.KernelRfl
namespace Go.Proofs.Ytdfgmjlpcninoaa
/- THE CELL 'sum', in the pinned program and in every row, IS THE sha256 OF THE DUMP (.gsa) THAT YtdfgmjlpcninoaaProg.lean LOADS. Nothing in Lean hashes anything: it is a label: what it is worth is what the hold of that sum in a sandbox is worth. -/
noncomputable def Try.pinned : Pinned := { name := "ytdfgmjlpcninoaa", sum := "58fcad674640b29f9a83705a9c90a27d2abd8649c735f4ee53eb120e3629fb13", checked := Try.checked }
namespace Rows
def none {H : Type} : Left H := { results := [], args := [] }

/-- 'laws.FnExactRuneBidi': WHATEVER THE INPUT: true; the input reads as it did. -/
def fnExactRuneBidiSpec : ChangeSpec := { name := "fnExactRuneBidi", fn := fun _ => fun
  | [d] => { results := [.lit (.bool true)], args := [d] }
  | _ => none }
def fnExactRuneBidiRow : OpenClaim := { program := "ytdfgmjlpcninoaa", sum := "58fcad674640b29f9a83705a9c90a27d2abd8649c735f4ee53eb120e3629fb13", func := "loop.example/colophon/laws.FnExactRuneBidi", spec := "fnExactRuneBidi", apart := false }
def FnExactRuneBidiSaid : Prop := fnExactRuneBidiRow.holds Try.pinned (OpenSpec.ofChange fnExactRuneBidiSpec)

/-- ITS FALSE NEIGHBOUR: 'it returns false'. Refute it at one input. -/
def fnExactRuneBidiWrong : ChangeSpec := { name := "fnExactRuneBidi", fn := fun _ => fun
  | [d] => { results := [.lit (.bool false)], args := [d] }
  | _ => none }
def FnExactRuneBidiWrongFalsely : Prop := fnExactRuneBidiRow.holds Try.pinned (OpenSpec.ofChange fnExactRuneBidiWrong)

/-- 'laws.FnExactRuneWide': WHATEVER THE INPUT: true; the input reads as it did. -/
def fnExactRuneWideSpec : ChangeSpec := { name := "fnExactRuneWide", fn := fun _ => fun
  | [d] => { results := [.lit (.bool true)], args := [d] }
  | _ => none }
def fnExactRuneWideRow : OpenClaim := { program := "ytdfgmjlpcninoaa", sum := "58fcad674640b29f9a83705a9c90a27d2abd8649c735f4ee53eb120e3629fb13", func := "loop.example/colophon/laws.FnExactRuneWide", spec := "fnExactRuneWide", apart := false }
def FnExactRuneWideSaid : Prop := fnExactRuneWideRow.holds Try.pinned (OpenSpec.ofChange fnExactRuneWideSpec)

/-- ITS FALSE NEIGHBOUR: 'it returns false'. Refute it at one input. -/
def fnExactRuneWideWrong : ChangeSpec := { name := "fnExactRuneWide", fn := fun _ => fun
  | [d] => { results := [.lit (.bool false)], args := [d] }
  | _ => none }
def FnExactRuneWideWrongFalsely : Prop := fnExactRuneWideRow.holds Try.pinned (OpenSpec.ofChange fnExactRuneWideWrong)

/-- 'laws.FnExactRuneMirror': WHATEVER THE INPUT: true; the input reads as it did. -/
def fnExactRuneMirrorSpec : ChangeSpec := { name := "fnExactRuneMirror", fn := fun _ => fun
  | [d] => { results := [.lit (.bool true)], args := [d] }
  | _ => none }
def fnExactRuneMirrorRow : OpenClaim := { program := "ytdfgmjlpcninoaa", sum := "58fcad674640b29f9a83705a9c90a27d2abd8649c735f4ee53eb120e3629fb13", func := "loop.example/colophon/laws.FnExactRuneMirror", spec := "fnExactRuneMirror", apart := false }
def FnExactRuneMirrorSaid : Prop := fnExactRuneMirrorRow.holds Try.pinned (OpenSpec.ofChange fnExactRuneMirrorSpec)

/-- ITS FALSE NEIGHBOUR: 'it returns false'. Refute it at one input. -/
def fnExactRuneMirrorWrong : ChangeSpec := { name := "fnExactRuneMirror", fn := fun _ => fun
  | [d] => { results := [.lit (.bool false)], args := [d] }
  | _ => none }
def FnExactRuneMirrorWrongFalsely : Prop := fnExactRuneMirrorRow.holds Try.pinned (OpenSpec.ofChange fnExactRuneMirrorWrong)

/-- 'laws.FnExactRuneMate': WHATEVER THE INPUT: true; the input reads as it did. -/
def fnExactRuneMateSpec : ChangeSpec := { name := "fnExactRuneMate", fn := fun _ => fun
  | [d] => { results := [.lit (.bool true)], args := [d] }
  | _ => none }
def fnExactRuneMateRow : OpenClaim := { program := "ytdfgmjlpcninoaa", sum := "58fcad674640b29f9a83705a9c90a27d2abd8649c735f4ee53eb120e3629fb13", func := "loop.example/colophon/laws.FnExactRuneMate", spec := "fnExactRuneMate", apart := false }
def FnExactRuneMateSaid : Prop := fnExactRuneMateRow.holds Try.pinned (OpenSpec.ofChange fnExactRuneMateSpec)

/-- ITS FALSE NEIGHBOUR: 'it returns false'. Refute it at one input. -/
def fnExactRuneMateWrong : ChangeSpec := { name := "fnExactRuneMate", fn := fun _ => fun
  | [d] => { results := [.lit (.bool false)], args := [d] }
  | _ => none }
def FnExactRuneMateWrongFalsely : Prop := fnExactRuneMateRow.holds Try.pinned (OpenSpec.ofChange fnExactRuneMateWrong)

/- THE SECOND FORM. 'bulk': how many values and letters a reading holds, each counted each time it is reached (what is shared counts as often as it is met; a slice's spare places count too). A statement '..UptoSaid' is the law's where the arguments, and the package variables that the reading takes, are together of bulk at most 1048576: NARROWER than '..Said'. Prove '..Said' where nothing that the law and all that it calls make is longer than what came in: it says more and counts as full. Else prove '..UptoSaid'. A law counts once. -/
mutual
def uptoBulk {H : Type} : DataW H → Nat
  | .lit (.string bytes) => bytes.length + 1
  | .lit _ => 1
  | .nil => 1
  | .ptr d => uptoBulk d + 1
  | .slice elems spare => uptoBulkAll elems + uptoBulkAll spare + 1
  | .agg parts => uptoBulkAll parts + 1
  | .iface _ d => uptoBulk d + 1
  | .map entries => uptoBulkEntries entries + 1
  | .held _ => 1
def uptoBulkAll {H : Type} : List (DataW H) → Nat
  | [] => 0
  | d :: r => uptoBulk d + uptoBulkAll r
def uptoBulkEntries {H : Type} : List (Lit × DataW H) → Nat
  | [] => 0
  | x :: r => uptoBulkEntry x + uptoBulkEntries r
def uptoBulkEntry {H : Type} : Lit × DataW H → Nat
  | (.string bytes, d) => bytes.length + uptoBulk d + 1
  | (_, d) => uptoBulk d + 1
 end
def uptoSmall : (H : Type) → List (DataW H) → Bool := fun _ ds => decide (uptoBulkAll ds ≤ 1048576)
def OpenSpec.upto (s : _root_.Go.ChangeSpec) : _root_.Go.OpenSpec := { _root_.Go.OpenSpec.ofChange s with cond := some uptoSmall }

/-- 'laws.FnExactRuneBidi', WHERE WHAT IT READS IS OF BULK AT MOST 1048576: true; the input reads as it did. -/
def fnExactRuneBidiUptoRow : OpenClaim := { program := "ytdfgmjlpcninoaa", sum := "58fcad674640b29f9a83705a9c90a27d2abd8649c735f4ee53eb120e3629fb13", func := "loop.example/colophon/laws.FnExactRuneBidi", spec := "fnExactRuneBidi", apart := false, narrowed := true }
def FnExactRuneBidiUptoSaid : Prop := fnExactRuneBidiUptoRow.holds Try.pinned (OpenSpec.upto fnExactRuneBidiSpec)

/-- 'laws.FnExactRuneWide', WHERE WHAT IT READS IS OF BULK AT MOST 1048576: true; the input reads as it did. -/
def fnExactRuneWideUptoRow : OpenClaim := { program := "ytdfgmjlpcninoaa", sum := "58fcad674640b29f9a83705a9c90a27d2abd8649c735f4ee53eb120e3629fb13", func := "loop.example/colophon/laws.FnExactRuneWide", spec := "fnExactRuneWide", apart := false, narrowed := true }
def FnExactRuneWideUptoSaid : Prop := fnExactRuneWideUptoRow.holds Try.pinned (OpenSpec.upto fnExactRuneWideSpec)

/-- 'laws.FnExactRuneMirror', WHERE WHAT IT READS IS OF BULK AT MOST 1048576: true; the input reads as it did. -/
def fnExactRuneMirrorUptoRow : OpenClaim := { program := "ytdfgmjlpcninoaa", sum := "58fcad674640b29f9a83705a9c90a27d2abd8649c735f4ee53eb120e3629fb13", func := "loop.example/colophon/laws.FnExactRuneMirror", spec := "fnExactRuneMirror", apart := false, narrowed := true }
def FnExactRuneMirrorUptoSaid : Prop := fnExactRuneMirrorUptoRow.holds Try.pinned (OpenSpec.upto fnExactRuneMirrorSpec)

/-- 'laws.FnExactRuneMate', WHERE WHAT IT READS IS OF BULK AT MOST 1048576: true; the input reads as it did. -/
def fnExactRuneMateUptoRow : OpenClaim := { program := "ytdfgmjlpcninoaa", sum := "58fcad674640b29f9a83705a9c90a27d2abd8649c735f4ee53eb120e3629fb13", func := "loop.example/colophon/laws.FnExactRuneMate", spec := "fnExactRuneMate", apart := false, narrowed := true }
def FnExactRuneMateUptoSaid : Prop := fnExactRuneMateUptoRow.holds Try.pinned (OpenSpec.upto fnExactRuneMateSpec)

end Rows
end Go.Proofs.Ytdfgmjlpcninoaa
