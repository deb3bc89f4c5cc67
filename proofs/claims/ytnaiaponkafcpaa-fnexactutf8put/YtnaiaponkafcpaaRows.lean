/-
  No cell of these rows narrows 'for every input' (looked for: loops, veiled, ifaces, maps, wideKeys, modest, calm, conditions, laid).
  DERIVED. THE GIVEN ROWS OF THIS SEAT. 6 by the template 'for every input the law returns true; each argument reads behind the call as it read before'; 0 by the template 'total and deterministic' (their statements: YtnaiaponkafcpaaTotals.lean).
  GIVEN WITH THE SEED: the statements are not yours to turn. If you find one false, say at which input.
  Laid BY PROGRAM, IN A SANDBOX (cutbox-rows.mjs): the forced cells as the released guide's own fill.sh prints them over the translation 41ed288fc1dee444… (all of the seat's roots in one cut). By AI agents, Wed Nov 11 2026. No macro, syntax, notation, axiom, sorry.
-/
import Derived.Test.YtnaiaponkafcpaaChecked
import GoSem.Claim
import GoSem.ClaimJoined
import GoSem.ClaimMapViews
import Derived.JoinedTies
import Derived.KernelRfl
namespace Go.Proofs.Ytnaiaponkafcpaa
/- THE CELL 'sum', in the pinned program and in every row, IS THE sha256 OF THE DUMP (.gsa) THAT YtnaiaponkafcpaaProg.lean LOADS. Nothing in Lean hashes anything: it is a label: what it is worth is what the hold of that sum in a sandbox is worth. -/
noncomputable def Try.pinned : Pinned := { name := "ytnaiaponkafcpaa", sum := "41ed288fc1dee44459dcac9179fcafaf4800aea99cd2c3c326ca7c511a492b4d", checked := Try.checked }
namespace Rows
def none {H : Type} : Left H := { results := [], args := [] }

/-- 'laws.FnLevelBase': WHATEVER THE INPUT: true; the input reads as it did. -/
def fnLevelBaseSpec : ChangeSpec := { name := "fnLevelBase", fn := fun _ => fun
  | [d] => { results := [.lit (.bool true)], args := [d] }
  | _ => none }
def fnLevelBaseRow : OpenClaim := { program := "ytnaiaponkafcpaa", sum := "41ed288fc1dee44459dcac9179fcafaf4800aea99cd2c3c326ca7c511a492b4d", func := "loop.example/colophon/laws.FnLevelBase", spec := "fnLevelBase", apart := false }
def FnLevelBaseSaid : Prop := fnLevelBaseRow.holds Try.pinned (OpenSpec.ofChange fnLevelBaseSpec)

/-- ITS FALSE NEIGHBOUR: 'it returns false'. Refute it at one input. -/
def fnLevelBaseWrong : ChangeSpec := { name := "fnLevelBase", fn := fun _ => fun
  | [d] => { results := [.lit (.bool false)], args := [d] }
  | _ => none }
def FnLevelBaseWrongFalsely : Prop := fnLevelBaseRow.holds Try.pinned (OpenSpec.ofChange fnLevelBaseWrong)

/-- 'laws.FnLevelWeak': WHATEVER THE INPUT: true; the input reads as it did. -/
def fnLevelWeakSpec : ChangeSpec := { name := "fnLevelWeak", fn := fun _ => fun
  | [d] => { results := [.lit (.bool true)], args := [d] }
  | _ => none }
def fnLevelWeakRow : OpenClaim := { program := "ytnaiaponkafcpaa", sum := "41ed288fc1dee44459dcac9179fcafaf4800aea99cd2c3c326ca7c511a492b4d", func := "loop.example/colophon/laws.FnLevelWeak", spec := "fnLevelWeak", unfollowed := true, recurses := true, apart := false }
def FnLevelWeakSaid : Prop := fnLevelWeakRow.holds Try.pinned (OpenSpec.ofChange fnLevelWeakSpec)

/-- ITS FALSE NEIGHBOUR: 'it returns false'. Refute it at one input. -/
def fnLevelWeakWrong : ChangeSpec := { name := "fnLevelWeak", fn := fun _ => fun
  | [d] => { results := [.lit (.bool false)], args := [d] }
  | _ => none }
def FnLevelWeakWrongFalsely : Prop := fnLevelWeakRow.holds Try.pinned (OpenSpec.ofChange fnLevelWeakWrong)

/-- 'laws.FnLevelPlain': WHATEVER THE INPUT: true; the input reads as it did. -/
def fnLevelPlainSpec : ChangeSpec := { name := "fnLevelPlain", fn := fun _ => fun
  | [d] => { results := [.lit (.bool true)], args := [d] }
  | _ => none }
def fnLevelPlainRow : OpenClaim := { program := "ytnaiaponkafcpaa", sum := "41ed288fc1dee44459dcac9179fcafaf4800aea99cd2c3c326ca7c511a492b4d", func := "loop.example/colophon/laws.FnLevelPlain", spec := "fnLevelPlain", apart := false }
def FnLevelPlainSaid : Prop := fnLevelPlainRow.holds Try.pinned (OpenSpec.ofChange fnLevelPlainSpec)

/-- ITS FALSE NEIGHBOUR: 'it returns false'. Refute it at one input. -/
def fnLevelPlainWrong : ChangeSpec := { name := "fnLevelPlain", fn := fun _ => fun
  | [d] => { results := [.lit (.bool false)], args := [d] }
  | _ => none }
def FnLevelPlainWrongFalsely : Prop := fnLevelPlainRow.holds Try.pinned (OpenSpec.ofChange fnLevelPlainWrong)

/-- 'laws.FnExactUtf8Put': WHATEVER THE INPUT: true; the input reads as it did. -/
def fnExactUtf8PutSpec : ChangeSpec := { name := "fnExactUtf8Put", fn := fun _ => fun
  | [d] => { results := [.lit (.bool true)], args := [d] }
  | _ => none }
def fnExactUtf8PutRow : OpenClaim := { program := "ytnaiaponkafcpaa", sum := "41ed288fc1dee44459dcac9179fcafaf4800aea99cd2c3c326ca7c511a492b4d", func := "loop.example/colophon/laws.FnExactUtf8Put", spec := "fnExactUtf8Put", inPlace := ["internal/abi.NoEscape"], apart := false }
def FnExactUtf8PutSaid : Prop := fnExactUtf8PutRow.holds Try.pinned (OpenSpec.ofChange fnExactUtf8PutSpec)

/-- ITS FALSE NEIGHBOUR: 'it returns false'. Refute it at one input. -/
def fnExactUtf8PutWrong : ChangeSpec := { name := "fnExactUtf8Put", fn := fun _ => fun
  | [d] => { results := [.lit (.bool false)], args := [d] }
  | _ => none }
def FnExactUtf8PutWrongFalsely : Prop := fnExactUtf8PutRow.holds Try.pinned (OpenSpec.ofChange fnExactUtf8PutWrong)

/-- 'laws.FnExactLevelWeak': WHATEVER THE INPUT: true; the input reads as it did. -/
def fnExactLevelWeakSpec : ChangeSpec := { name := "fnExactLevelWeak", fn := fun _ => fun
  | [d1, d2] => { results := [.lit (.bool true)], args := [d1, d2] }
  | _ => none }
def fnExactLevelWeakRow : OpenClaim := { program := "ytnaiaponkafcpaa", sum := "41ed288fc1dee44459dcac9179fcafaf4800aea99cd2c3c326ca7c511a492b4d", func := "loop.example/colophon/laws.FnExactLevelWeak", spec := "fnExactLevelWeak", unfollowed := true, recurses := true, apart := false }
def FnExactLevelWeakSaid : Prop := fnExactLevelWeakRow.holds Try.pinned (OpenSpec.ofChange fnExactLevelWeakSpec)

/-- ITS FALSE NEIGHBOUR: 'it returns false'. Refute it at one input. -/
def fnExactLevelWeakWrong : ChangeSpec := { name := "fnExactLevelWeak", fn := fun _ => fun
  | [d1, d2] => { results := [.lit (.bool false)], args := [d1, d2] }
  | _ => none }
def FnExactLevelWeakWrongFalsely : Prop := fnExactLevelWeakRow.holds Try.pinned (OpenSpec.ofChange fnExactLevelWeakWrong)

/-- 'laws.FnExactLineStand': WHATEVER THE INPUT: true; the input reads as it did. -/
def fnExactLineStandSpec : ChangeSpec := { name := "fnExactLineStand", fn := fun _ => fun
  | [d1, d2, d3, d4, d5] => { results := [.lit (.bool true)], args := [d1, d2, d3, d4, d5] }
  | _ => none }
def fnExactLineStandRow : OpenClaim := { program := "ytnaiaponkafcpaa", sum := "41ed288fc1dee44459dcac9179fcafaf4800aea99cd2c3c326ca7c511a492b4d", func := "loop.example/colophon/laws.FnExactLineStand", spec := "fnExactLineStand", apart := false }
def FnExactLineStandSaid : Prop := fnExactLineStandRow.holds Try.pinned (OpenSpec.ofChange fnExactLineStandSpec)

/-- ITS FALSE NEIGHBOUR: 'it returns false'. Refute it at one input. -/
def fnExactLineStandWrong : ChangeSpec := { name := "fnExactLineStand", fn := fun _ => fun
  | [d1, d2, d3, d4, d5] => { results := [.lit (.bool false)], args := [d1, d2, d3, d4, d5] }
  | _ => none }
def FnExactLineStandWrongFalsely : Prop := fnExactLineStandRow.holds Try.pinned (OpenSpec.ofChange fnExactLineStandWrong)

/- THE SECOND FORM. 'bulk': how many values and letters a reading holds, each counted each time it is reached (what is shared counts as often as it is met; a slice's spare places count too). A statement '..UptoSaid' is the law's where the arguments, and the package variables that the reading takes, are together of bulk at most 1048576: NARROWER than '..Said'. Prove '..Said' where nothing that the law and all that it calls make is longer than what came in: it says more and counts as full. Else prove '..UptoSaid'. A law counts once. -/
mutual
def uptoBulk {H : Type} : DataW H → Nat
  | .lit (.string bytes) => bytes.length + 1
  | .lit _ => 1
  | .nil => 1
  | .ptr d => uptoBulk d + 1
  | .slice elems spare => uptoBulkAll elems + uptoBulkAll spare + 1
  | .agg parts => uptoBulkAll parts + 1
  | .iface _ d => uptoBulk d + 1
  | .map entries => uptoBulkEntries entries + 1
  | .held _ => 1
def uptoBulkAll {H : Type} : List (DataW H) → Nat
  | [] => 0
  | d :: r => uptoBulk d + uptoBulkAll r
def uptoBulkEntries {H : Type} : List (Lit × DataW H) → Nat
  | [] => 0
  | x :: r => uptoBulkEntry x + uptoBulkEntries r
def uptoBulkEntry {H : Type} : Lit × DataW H → Nat
  | (.string bytes, d) => bytes.length + uptoBulk d + 1
  | (_, d) => uptoBulk d + 1
 end
def uptoSmall : (H : Type) → List (DataW H) → Bool := fun _ ds => decide (uptoBulkAll ds ≤ 1048576)
def OpenSpec.upto (s : _root_.Go.ChangeSpec) : _root_.Go.OpenSpec := { _root_.Go.OpenSpec.ofChange s with cond := some uptoSmall }

/-- 'laws.FnLevelBase', WHERE WHAT IT READS IS OF BULK AT MOST 1048576: true; the input reads as it did. -/
def fnLevelBaseUptoRow : OpenClaim := { program := "ytnaiaponkafcpaa", sum := "41ed288fc1dee44459dcac9179fcafaf4800aea99cd2c3c326ca7c511a492b4d", func := "loop.example/colophon/laws.FnLevelBase", spec := "fnLevelBase", apart := false, narrowed := true }
def FnLevelBaseUptoSaid : Prop := fnLevelBaseUptoRow.holds Try.pinned (OpenSpec.upto fnLevelBaseSpec)

/-- 'laws.FnLevelWeak', WHERE WHAT IT READS IS OF BULK AT MOST 1048576: true; the input reads as it did. -/
def fnLevelWeakUptoRow : OpenClaim := { program := "ytnaiaponkafcpaa", sum := "41ed288fc1dee44459dcac9179fcafaf4800aea99cd2c3c326ca7c511a492b4d", func := "loop.example/colophon/laws.FnLevelWeak", spec := "fnLevelWeak", unfollowed := true, recurses := true, apart := false, narrowed := true }
def FnLevelWeakUptoSaid : Prop := fnLevelWeakUptoRow.holds Try.pinned (OpenSpec.upto fnLevelWeakSpec)

/-- 'laws.FnLevelPlain', WHERE WHAT IT READS IS OF BULK AT MOST 1048576: true; the input reads as it did. -/
def fnLevelPlainUptoRow : OpenClaim := { program := "ytnaiaponkafcpaa", sum := "41ed288fc1dee44459dcac9179fcafaf4800aea99cd2c3c326ca7c511a492b4d", func := "loop.example/colophon/laws.FnLevelPlain", spec := "fnLevelPlain", apart := false, narrowed := true }
def FnLevelPlainUptoSaid : Prop := fnLevelPlainUptoRow.holds Try.pinned (OpenSpec.upto fnLevelPlainSpec)

/-- 'laws.FnExactUtf8Put', WHERE WHAT IT READS IS OF BULK AT MOST 1048576: true; the input reads as it did. -/
def fnExactUtf8PutUptoRow : OpenClaim := { program := "ytnaiaponkafcpaa", sum := "41ed288fc1dee44459dcac9179fcafaf4800aea99cd2c3c326ca7c511a492b4d", func := "loop.example/colophon/laws.FnExactUtf8Put", spec := "fnExactUtf8Put", inPlace := ["internal/abi.NoEscape"], apart := false, narrowed := true }
def FnExactUtf8PutUptoSaid : Prop := fnExactUtf8PutUptoRow.holds Try.pinned (OpenSpec.upto fnExactUtf8PutSpec)

/-- 'laws.FnExactLevelWeak', WHERE WHAT IT READS IS OF BULK AT MOST 1048576: true; the input reads as it did. -/
def fnExactLevelWeakUptoRow : OpenClaim := { program := "ytnaiaponkafcpaa", sum := "41ed288fc1dee44459dcac9179fcafaf4800aea99cd2c3c326ca7c511a492b4d", func := "loop.example/colophon/laws.FnExactLevelWeak", spec := "fnExactLevelWeak", unfollowed := true, recurses := true, apart := false, narrowed := true }
def FnExactLevelWeakUptoSaid : Prop := fnExactLevelWeakUptoRow.holds Try.pinned (OpenSpec.upto fnExactLevelWeakSpec)

/-- 'laws.FnExactLineStand', WHERE WHAT IT READS IS OF BULK AT MOST 1048576: true; the input reads as it did. -/
def fnExactLineStandUptoRow : OpenClaim := { program := "ytnaiaponkafcpaa", sum := "41ed288fc1dee44459dcac9179fcafaf4800aea99cd2c3c326ca7c511a492b4d", func := "loop.example/colophon/laws.FnExactLineStand", spec := "fnExactLineStand", apart := false, narrowed := true }
def FnExactLineStandUptoSaid : Prop := fnExactLineStandUptoRow.holds Try.pinned (OpenSpec.upto fnExactLineStandSpec)

end Rows
end Go.Proofs.Ytnaiaponkafcpaa
