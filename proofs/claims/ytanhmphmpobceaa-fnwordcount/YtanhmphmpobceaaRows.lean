/-
  No cell of these rows narrows 'for every input' (looked for: loops, veiled, ifaces, maps, wideKeys, modest, calm, conditions, laid).
  DERIVED. THE GIVEN ROWS OF THIS SEAT. 6 by the template 'for every input the law returns true; each argument reads behind the call as it read before'; 0 by the template 'total and deterministic' (their statements: YtanhmphmpobceaaTotals.lean).
  GIVEN WITH THE SEED: the statements are not yours to turn. If you find one false, say at which input.
  Laid BY PROGRAM, IN A SANDBOX (cutbox-rows.mjs): the forced cells as the released guide's own fill.sh prints them over the translation 20631b095a2c0537… (all of the seat's roots in one cut). By AI agents, Wed Nov 11 2026. No macro, syntax, notation, axiom, sorry.
-/
import Derived.Test.YtanhmphmpobceaaChecked
import GoSem.Claim
import GoSem.ClaimJoined
import GoSem.ClaimMapViews
import Derived.JoinedTies
import Derived.KernelRfl
namespace Go.Proofs.Ytanhmphmpobceaa
/- THE CELL 'sum', in the pinned program and in every row, IS THE sha256 OF THE DUMP (.gsa) THAT YtanhmphmpobceaaProg.lean LOADS. Nothing in Lean hashes anything: it is a label: what it is worth is what the hold of that sum in a sandbox is worth. -/
noncomputable def Try.pinned : Pinned := { name := "ytanhmphmpobceaa", sum := "20631b095a2c053750ce84d19fb4de1110a52849c218476f4c36744cd2154f4e", checked := Try.checked }
namespace Rows
def none {H : Type} : Left H := { results := [], args := [] }

/-- 'laws.FnWordStarts': WHATEVER THE INPUT: true; the input reads as it did. -/
def fnWordStartsSpec : ChangeSpec := { name := "fnWordStarts", fn := fun _ => fun
  | [d] => { results := [.lit (.bool true)], args := [d] }
  | _ => none }
def fnWordStartsRow : OpenClaim := { program := "ytanhmphmpobceaa", sum := "20631b095a2c053750ce84d19fb4de1110a52849c218476f4c36744cd2154f4e", func := "loop.example/colophon/laws.FnWordStarts", spec := "fnWordStarts", apart := false }
def FnWordStartsSaid : Prop := fnWordStartsRow.holds Try.pinned (OpenSpec.ofChange fnWordStartsSpec)

/-- ITS FALSE NEIGHBOUR: 'it returns false'. Refute it at one input. -/
def fnWordStartsWrong : ChangeSpec := { name := "fnWordStarts", fn := fun _ => fun
  | [d] => { results := [.lit (.bool false)], args := [d] }
  | _ => none }
def FnWordStartsWrongFalsely : Prop := fnWordStartsRow.holds Try.pinned (OpenSpec.ofChange fnWordStartsWrong)

/-- 'laws.FnWordAt': WHATEVER THE INPUT: true; the input reads as it did. -/
def fnWordAtSpec : ChangeSpec := { name := "fnWordAt", fn := fun _ => fun
  | [d] => { results := [.lit (.bool true)], args := [d] }
  | _ => none }
def fnWordAtRow : OpenClaim := { program := "ytanhmphmpobceaa", sum := "20631b095a2c053750ce84d19fb4de1110a52849c218476f4c36744cd2154f4e", func := "loop.example/colophon/laws.FnWordAt", spec := "fnWordAt", apart := false }
def FnWordAtSaid : Prop := fnWordAtRow.holds Try.pinned (OpenSpec.ofChange fnWordAtSpec)

/-- ITS FALSE NEIGHBOUR: 'it returns false'. Refute it at one input. -/
def fnWordAtWrong : ChangeSpec := { name := "fnWordAt", fn := fun _ => fun
  | [d] => { results := [.lit (.bool false)], args := [d] }
  | _ => none }
def FnWordAtWrongFalsely : Prop := fnWordAtRow.holds Try.pinned (OpenSpec.ofChange fnWordAtWrong)

/-- 'laws.FnWordCount': WHATEVER THE INPUT: true; the input reads as it did. -/
def fnWordCountSpec : ChangeSpec := { name := "fnWordCount", fn := fun _ => fun
  | [d] => { results := [.lit (.bool true)], args := [d] }
  | _ => none }
def fnWordCountRow : OpenClaim := { program := "ytanhmphmpobceaa", sum := "20631b095a2c053750ce84d19fb4de1110a52849c218476f4c36744cd2154f4e", func := "loop.example/colophon/laws.FnWordCount", spec := "fnWordCount", apart := false }
def FnWordCountSaid : Prop := fnWordCountRow.holds Try.pinned (OpenSpec.ofChange fnWordCountSpec)

/-- ITS FALSE NEIGHBOUR: 'it returns false'. Refute it at one input. -/
def fnWordCountWrong : ChangeSpec := { name := "fnWordCount", fn := fun _ => fun
  | [d] => { results := [.lit (.bool false)], args := [d] }
  | _ => none }
def FnWordCountWrongFalsely : Prop := fnWordCountRow.holds Try.pinned (OpenSpec.ofChange fnWordCountWrong)

/-- 'laws.FnExactWordStarts': WHATEVER THE INPUT: true; the input reads as it did. -/
def fnExactWordStartsSpec : ChangeSpec := { name := "fnExactWordStarts", fn := fun _ => fun
  | [d] => { results := [.lit (.bool true)], args := [d] }
  | _ => none }
def fnExactWordStartsRow : OpenClaim := { program := "ytanhmphmpobceaa", sum := "20631b095a2c053750ce84d19fb4de1110a52849c218476f4c36744cd2154f4e", func := "loop.example/colophon/laws.FnExactWordStarts", spec := "fnExactWordStarts", apart := false }
def FnExactWordStartsSaid : Prop := fnExactWordStartsRow.holds Try.pinned (OpenSpec.ofChange fnExactWordStartsSpec)

/-- ITS FALSE NEIGHBOUR: 'it returns false'. Refute it at one input. -/
def fnExactWordStartsWrong : ChangeSpec := { name := "fnExactWordStarts", fn := fun _ => fun
  | [d] => { results := [.lit (.bool false)], args := [d] }
  | _ => none }
def FnExactWordStartsWrongFalsely : Prop := fnExactWordStartsRow.holds Try.pinned (OpenSpec.ofChange fnExactWordStartsWrong)

/-- 'laws.FnExactWordAt': WHATEVER THE INPUT: true; the input reads as it did. -/
def fnExactWordAtSpec : ChangeSpec := { name := "fnExactWordAt", fn := fun _ => fun
  | [d1, d2] => { results := [.lit (.bool true)], args := [d1, d2] }
  | _ => none }
def fnExactWordAtRow : OpenClaim := { program := "ytanhmphmpobceaa", sum := "20631b095a2c053750ce84d19fb4de1110a52849c218476f4c36744cd2154f4e", func := "loop.example/colophon/laws.FnExactWordAt", spec := "fnExactWordAt", apart := false }
def FnExactWordAtSaid : Prop := fnExactWordAtRow.holds Try.pinned (OpenSpec.ofChange fnExactWordAtSpec)

/-- ITS FALSE NEIGHBOUR: 'it returns false'. Refute it at one input. -/
def fnExactWordAtWrong : ChangeSpec := { name := "fnExactWordAt", fn := fun _ => fun
  | [d1, d2] => { results := [.lit (.bool false)], args := [d1, d2] }
  | _ => none }
def FnExactWordAtWrongFalsely : Prop := fnExactWordAtRow.holds Try.pinned (OpenSpec.ofChange fnExactWordAtWrong)

/-- 'laws.FnExactWordCount': WHATEVER THE INPUT: true; the input reads as it did. -/
def fnExactWordCountSpec : ChangeSpec := { name := "fnExactWordCount", fn := fun _ => fun
  | [d] => { results := [.lit (.bool true)], args := [d] }
  | _ => none }
def fnExactWordCountRow : OpenClaim := { program := "ytanhmphmpobceaa", sum := "20631b095a2c053750ce84d19fb4de1110a52849c218476f4c36744cd2154f4e", func := "loop.example/colophon/laws.FnExactWordCount", spec := "fnExactWordCount", apart := false }
def FnExactWordCountSaid : Prop := fnExactWordCountRow.holds Try.pinned (OpenSpec.ofChange fnExactWordCountSpec)

/-- ITS FALSE NEIGHBOUR: 'it returns false'. Refute it at one input. -/
def fnExactWordCountWrong : ChangeSpec := { name := "fnExactWordCount", fn := fun _ => fun
  | [d] => { results := [.lit (.bool false)], args := [d] }
  | _ => none }
def FnExactWordCountWrongFalsely : Prop := fnExactWordCountRow.holds Try.pinned (OpenSpec.ofChange fnExactWordCountWrong)

/- THE SECOND FORM. 'bulk': how many values and letters a reading holds, each counted each time it is reached (what is shared counts as often as it is met; a slice's spare places count too). A statement '..UptoSaid' is the law's where the arguments, and the package variables that the reading takes, are together of bulk at most 1048576: NARROWER than '..Said'. Prove '..Said' where nothing that the law and all that it calls make is longer than what came in: it says more and counts as full. Else prove '..UptoSaid'. A law counts once. -/
mutual
def uptoBulk {H : Type} : DataW H → Nat
  | .lit (.string bytes) => bytes.length + 1
  | .lit _ => 1
  | .nil => 1
  | .ptr d => uptoBulk d + 1
  | .slice elems spare => uptoBulkAll elems + uptoBulkAll spare + 1
  | .agg parts => uptoBulkAll parts + 1
  | .iface _ d => uptoBulk d + 1
  | .map entries => uptoBulkEntries entries + 1
  | .held _ => 1
def uptoBulkAll {H : Type} : List (DataW H) → Nat
  | [] => 0
  | d :: r => uptoBulk d + uptoBulkAll r
def uptoBulkEntries {H : Type} : List (Lit × DataW H) → Nat
  | [] => 0
  | x :: r => uptoBulkEntry x + uptoBulkEntries r
def uptoBulkEntry {H : Type} : Lit × DataW H → Nat
  | (.string bytes, d) => bytes.length + uptoBulk d + 1
  | (_, d) => uptoBulk d + 1
 end
def uptoSmall : (H : Type) → List (DataW H) → Bool := fun _ ds => decide (uptoBulkAll ds ≤ 1048576)
def OpenSpec.upto (s : _root_.Go.ChangeSpec) : _root_.Go.OpenSpec := { _root_.Go.OpenSpec.ofChange s with cond := some uptoSmall }

/-- 'laws.FnWordStarts', WHERE WHAT IT READS IS OF BULK AT MOST 1048576: true; the input reads as it did. -/
def fnWordStartsUptoRow : OpenClaim := { program := "ytanhmphmpobceaa", sum := "20631b095a2c053750ce84d19fb4de1110a52849c218476f4c36744cd2154f4e", func := "loop.example/colophon/laws.FnWordStarts", spec := "fnWordStarts", apart := false, narrowed := true }
def FnWordStartsUptoSaid : Prop := fnWordStartsUptoRow.holds Try.pinned (OpenSpec.upto fnWordStartsSpec)

/-- 'laws.FnWordAt', WHERE WHAT IT READS IS OF BULK AT MOST 1048576: true; the input reads as it did. -/
def fnWordAtUptoRow : OpenClaim := { program := "ytanhmphmpobceaa", sum := "20631b095a2c053750ce84d19fb4de1110a52849c218476f4c36744cd2154f4e", func := "loop.example/colophon/laws.FnWordAt", spec := "fnWordAt", apart := false, narrowed := true }
def FnWordAtUptoSaid : Prop := fnWordAtUptoRow.holds Try.pinned (OpenSpec.upto fnWordAtSpec)

/-- 'laws.FnWordCount', WHERE WHAT IT READS IS OF BULK AT MOST 1048576: true; the input reads as it did. -/
def fnWordCountUptoRow : OpenClaim := { program := "ytanhmphmpobceaa", sum := "20631b095a2c053750ce84d19fb4de1110a52849c218476f4c36744cd2154f4e", func := "loop.example/colophon/laws.FnWordCount", spec := "fnWordCount", apart := false, narrowed := true }
def FnWordCountUptoSaid : Prop := fnWordCountUptoRow.holds Try.pinned (OpenSpec.upto fnWordCountSpec)

/-- 'laws.FnExactWordStarts', WHERE WHAT IT READS IS OF BULK AT MOST 1048576: true; the input reads as it did. -/
def fnExactWordStartsUptoRow : OpenClaim := { program := "ytanhmphmpobceaa", sum := "20631b095a2c053750ce84d19fb4de1110a52849c218476f4c36744cd2154f4e", func := "loop.example/colophon/laws.FnExactWordStarts", spec := "fnExactWordStarts", apart := false, narrowed := true }
def FnExactWordStartsUptoSaid : Prop := fnExactWordStartsUptoRow.holds Try.pinned (OpenSpec.upto fnExactWordStartsSpec)

/-- 'laws.FnExactWordAt', WHERE WHAT IT READS IS OF BULK AT MOST 1048576: true; the input reads as it did. -/
def fnExactWordAtUptoRow : OpenClaim := { program := "ytanhmphmpobceaa", sum := "20631b095a2c053750ce84d19fb4de1110a52849c218476f4c36744cd2154f4e", func := "loop.example/colophon/laws.FnExactWordAt", spec := "fnExactWordAt", apart := false, narrowed := true }
def FnExactWordAtUptoSaid : Prop := fnExactWordAtUptoRow.holds Try.pinned (OpenSpec.upto fnExactWordAtSpec)

/-- 'laws.FnExactWordCount', WHERE WHAT IT READS IS OF BULK AT MOST 1048576: true; the input reads as it did. -/
def fnExactWordCountUptoRow : OpenClaim := { program := "ytanhmphmpobceaa", sum := "20631b095a2c053750ce84d19fb4de1110a52849c218476f4c36744cd2154f4e", func := "loop.example/colophon/laws.FnExactWordCount", spec := "fnExactWordCount", apart := false, narrowed := true }
def FnExactWordCountUptoSaid : Prop := fnExactWordCountUptoRow.holds Try.pinned (OpenSpec.upto fnExactWordCountSpec)

end Rows
end Go.Proofs.Ytanhmphmpobceaa
