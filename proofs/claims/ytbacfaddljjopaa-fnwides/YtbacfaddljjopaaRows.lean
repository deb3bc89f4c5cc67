/-
  No cell of these rows narrows 'for every input' (looked for: loops, veiled, ifaces, maps, wideKeys, modest, calm, conditions, laid).
  DERIVED. THE GIVEN ROWS OF THIS SEAT. 6 by the template 'for every input the law returns true; each argument reads behind the call as it read before'; 0 by the template 'total and deterministic' (their statements: YtbacfaddljjopaaTotals.lean).
  GIVEN WITH THE SEED: the statements are not yours to turn. If you find one false, say at which input.
  Laid BY PROGRAM, IN A SANDBOX (cutbox-rows.mjs): the forced cells as the released guide's own fill.sh prints them over the translation 6a0d989219a89493… (all of the seat's roots in one cut). By AI agents, Wed Nov 11 2026. No macro, syntax, notation, axiom, sorry.
-/
import Derived.Test.YtbacfaddljjopaaChecked
import GoSem.Claim
import GoSem.ClaimJoined
import GoSem.ClaimMapViews
import Derived.JoinedTies
import Derived.KernelRfl
namespace Go.Proofs.Ytbacfaddljjopaa
/- THE CELL 'sum', in the pinned program and in every row, IS THE sha256 OF THE DUMP (.gsa) THAT YtbacfaddljjopaaProg.lean LOADS. Nothing in Lean hashes anything: it is a label: what it is worth is what the hold of that sum in a sandbox is worth. -/
noncomputable def Try.pinned : Pinned := { name := "ytbacfaddljjopaa", sum := "6a0d989219a8949351affc03da7a0c881b9b25658be9a25a76bb2edbc0114a54", checked := Try.checked }
namespace Rows
def none {H : Type} : Left H := { results := [], args := [] }

/-- 'laws.FnWides': WHATEVER THE INPUT: true; the input reads as it did. -/
def fnWidesSpec : ChangeSpec := { name := "fnWides", fn := fun _ => fun
  | [d] => { results := [.lit (.bool true)], args := [d] }
  | _ => none }
def fnWidesRow : OpenClaim := { program := "ytbacfaddljjopaa", sum := "6a0d989219a8949351affc03da7a0c881b9b25658be9a25a76bb2edbc0114a54", func := "loop.example/colophon/laws.FnWides", spec := "fnWides", apart := false }
def FnWidesSaid : Prop := fnWidesRow.holds Try.pinned (OpenSpec.ofChange fnWidesSpec)

/-- ITS FALSE NEIGHBOUR: 'it returns false'. Refute it at one input. -/
def fnWidesWrong : ChangeSpec := { name := "fnWides", fn := fun _ => fun
  | [d] => { results := [.lit (.bool false)], args := [d] }
  | _ => none }
def FnWidesWrongFalsely : Prop := fnWidesRow.holds Try.pinned (OpenSpec.ofChange fnWidesWrong)

/-- 'laws.FnExactWordsOf': WHATEVER THE INPUT: true; the input reads as it did. -/
def fnExactWordsOfSpec : ChangeSpec := { name := "fnExactWordsOf", fn := fun _ => fun
  | [d] => { results := [.lit (.bool true)], args := [d] }
  | _ => none }
def fnExactWordsOfRow : OpenClaim := { program := "ytbacfaddljjopaa", sum := "6a0d989219a8949351affc03da7a0c881b9b25658be9a25a76bb2edbc0114a54", func := "loop.example/colophon/laws.FnExactWordsOf", spec := "fnExactWordsOf", unfollowed := true, recurses := true, apart := false }
def FnExactWordsOfSaid : Prop := fnExactWordsOfRow.holds Try.pinned (OpenSpec.ofChange fnExactWordsOfSpec)

/-- ITS FALSE NEIGHBOUR: 'it returns false'. Refute it at one input. -/
def fnExactWordsOfWrong : ChangeSpec := { name := "fnExactWordsOf", fn := fun _ => fun
  | [d] => { results := [.lit (.bool false)], args := [d] }
  | _ => none }
def FnExactWordsOfWrongFalsely : Prop := fnExactWordsOfRow.holds Try.pinned (OpenSpec.ofChange fnExactWordsOfWrong)

/-- 'laws.FnExactSpanAt': WHATEVER THE INPUT: true; the input reads as it did. -/
def fnExactSpanAtSpec : ChangeSpec := { name := "fnExactSpanAt", fn := fun _ => fun
  | [d1, d2] => { results := [.lit (.bool true)], args := [d1, d2] }
  | _ => none }
def fnExactSpanAtRow : OpenClaim := { program := "ytbacfaddljjopaa", sum := "6a0d989219a8949351affc03da7a0c881b9b25658be9a25a76bb2edbc0114a54", func := "loop.example/colophon/laws.FnExactSpanAt", spec := "fnExactSpanAt", apart := false }
def FnExactSpanAtSaid : Prop := fnExactSpanAtRow.holds Try.pinned (OpenSpec.ofChange fnExactSpanAtSpec)

/-- ITS FALSE NEIGHBOUR: 'it returns false'. Refute it at one input. -/
def fnExactSpanAtWrong : ChangeSpec := { name := "fnExactSpanAt", fn := fun _ => fun
  | [d1, d2] => { results := [.lit (.bool false)], args := [d1, d2] }
  | _ => none }
def FnExactSpanAtWrongFalsely : Prop := fnExactSpanAtRow.holds Try.pinned (OpenSpec.ofChange fnExactSpanAtWrong)

/-- 'laws.FnExactWidesOf': WHATEVER THE INPUT: true; the input reads as it did. -/
def fnExactWidesOfSpec : ChangeSpec := { name := "fnExactWidesOf", fn := fun _ => fun
  | [d1, d2] => { results := [.lit (.bool true)], args := [d1, d2] }
  | _ => none }
def fnExactWidesOfRow : OpenClaim := { program := "ytbacfaddljjopaa", sum := "6a0d989219a8949351affc03da7a0c881b9b25658be9a25a76bb2edbc0114a54", func := "loop.example/colophon/laws.FnExactWidesOf", spec := "fnExactWidesOf", apart := false }
def FnExactWidesOfSaid : Prop := fnExactWidesOfRow.holds Try.pinned (OpenSpec.ofChange fnExactWidesOfSpec)

/-- ITS FALSE NEIGHBOUR: 'it returns false'. Refute it at one input. -/
def fnExactWidesOfWrong : ChangeSpec := { name := "fnExactWidesOf", fn := fun _ => fun
  | [d1, d2] => { results := [.lit (.bool false)], args := [d1, d2] }
  | _ => none }
def FnExactWidesOfWrongFalsely : Prop := fnExactWidesOfRow.holds Try.pinned (OpenSpec.ofChange fnExactWidesOfWrong)

/-- 'laws.FnExactFillCost': WHATEVER THE INPUT: true; the input reads as it did. -/
def fnExactFillCostSpec : ChangeSpec := { name := "fnExactFillCost", fn := fun _ => fun
  | [d1, d2, d3, d4] => { results := [.lit (.bool true)], args := [d1, d2, d3, d4] }
  | _ => none }
def fnExactFillCostRow : OpenClaim := { program := "ytbacfaddljjopaa", sum := "6a0d989219a8949351affc03da7a0c881b9b25658be9a25a76bb2edbc0114a54", func := "loop.example/colophon/laws.FnExactFillCost", spec := "fnExactFillCost", unfollowed := true, recurses := true, apart := false }
def FnExactFillCostSaid : Prop := fnExactFillCostRow.holds Try.pinned (OpenSpec.ofChange fnExactFillCostSpec)

/-- ITS FALSE NEIGHBOUR: 'it returns false'. Refute it at one input. -/
def fnExactFillCostWrong : ChangeSpec := { name := "fnExactFillCost", fn := fun _ => fun
  | [d1, d2, d3, d4] => { results := [.lit (.bool false)], args := [d1, d2, d3, d4] }
  | _ => none }
def FnExactFillCostWrongFalsely : Prop := fnExactFillCostRow.holds Try.pinned (OpenSpec.ofChange fnExactFillCostWrong)

/-- 'laws.FnExactFillFits': WHATEVER THE INPUT: true; the input reads as it did. -/
def fnExactFillFitsSpec : ChangeSpec := { name := "fnExactFillFits", fn := fun _ => fun
  | [d1, d2, d3, d4] => { results := [.lit (.bool true)], args := [d1, d2, d3, d4] }
  | _ => none }
def fnExactFillFitsRow : OpenClaim := { program := "ytbacfaddljjopaa", sum := "6a0d989219a8949351affc03da7a0c881b9b25658be9a25a76bb2edbc0114a54", func := "loop.example/colophon/laws.FnExactFillFits", spec := "fnExactFillFits", unfollowed := true, recurses := true, apart := false }
def FnExactFillFitsSaid : Prop := fnExactFillFitsRow.holds Try.pinned (OpenSpec.ofChange fnExactFillFitsSpec)

/-- ITS FALSE NEIGHBOUR: 'it returns false'. Refute it at one input. -/
def fnExactFillFitsWrong : ChangeSpec := { name := "fnExactFillFits", fn := fun _ => fun
  | [d1, d2, d3, d4] => { results := [.lit (.bool false)], args := [d1, d2, d3, d4] }
  | _ => none }
def FnExactFillFitsWrongFalsely : Prop := fnExactFillFitsRow.holds Try.pinned (OpenSpec.ofChange fnExactFillFitsWrong)

/- THE SECOND FORM. 'bulk': how many values and letters a reading holds, each counted each time it is reached (what is shared counts as often as it is met; a slice's spare places count too). A statement '..UptoSaid' is the law's where the arguments, and the package variables that the reading takes, are together of bulk at most 1048576: NARROWER than '..Said'. Prove '..Said' where nothing that the law and all that it calls make is longer than what came in: it says more and counts as full. Else prove '..UptoSaid'. A law counts once. -/
mutual
def uptoBulk {H : Type} : DataW H → Nat
  | .lit (.string bytes) => bytes.length + 1
  | .lit _ => 1
  | .nil => 1
  | .ptr d => uptoBulk d + 1
  | .slice elems spare => uptoBulkAll elems + uptoBulkAll spare + 1
  | .agg parts => uptoBulkAll parts + 1
  | .iface _ d => uptoBulk d + 1
  | .map entries => uptoBulkEntries entries + 1
  | .held _ => 1
def uptoBulkAll {H : Type} : List (DataW H) → Nat
  | [] => 0
  | d :: r => uptoBulk d + uptoBulkAll r
def uptoBulkEntries {H : Type} : List (Lit × DataW H) → Nat
  | [] => 0
  | x :: r => uptoBulkEntry x + uptoBulkEntries r
def uptoBulkEntry {H : Type} : Lit × DataW H → Nat
  | (.string bytes, d) => bytes.length + uptoBulk d + 1
  | (_, d) => uptoBulk d + 1
 end
def uptoSmall : (H : Type) → List (DataW H) → Bool := fun _ ds => decide (uptoBulkAll ds ≤ 1048576)
def OpenSpec.upto (s : _root_.Go.ChangeSpec) : _root_.Go.OpenSpec := { _root_.Go.OpenSpec.ofChange s with cond := some uptoSmall }

/-- 'laws.FnWides', WHERE WHAT IT READS IS OF BULK AT MOST 1048576: true; the input reads as it did. -/
def fnWidesUptoRow : OpenClaim := { program := "ytbacfaddljjopaa", sum := "6a0d989219a8949351affc03da7a0c881b9b25658be9a25a76bb2edbc0114a54", func := "loop.example/colophon/laws.FnWides", spec := "fnWides", apart := false, narrowed := true }
def FnWidesUptoSaid : Prop := fnWidesUptoRow.holds Try.pinned (OpenSpec.upto fnWidesSpec)

/-- 'laws.FnExactWordsOf', WHERE WHAT IT READS IS OF BULK AT MOST 1048576: true; the input reads as it did. -/
def fnExactWordsOfUptoRow : OpenClaim := { program := "ytbacfaddljjopaa", sum := "6a0d989219a8949351affc03da7a0c881b9b25658be9a25a76bb2edbc0114a54", func := "loop.example/colophon/laws.FnExactWordsOf", spec := "fnExactWordsOf", unfollowed := true, recurses := true, apart := false, narrowed := true }
def FnExactWordsOfUptoSaid : Prop := fnExactWordsOfUptoRow.holds Try.pinned (OpenSpec.upto fnExactWordsOfSpec)

/-- 'laws.FnExactSpanAt', WHERE WHAT IT READS IS OF BULK AT MOST 1048576: true; the input reads as it did. -/
def fnExactSpanAtUptoRow : OpenClaim := { program := "ytbacfaddljjopaa", sum := "6a0d989219a8949351affc03da7a0c881b9b25658be9a25a76bb2edbc0114a54", func := "loop.example/colophon/laws.FnExactSpanAt", spec := "fnExactSpanAt", apart := false, narrowed := true }
def FnExactSpanAtUptoSaid : Prop := fnExactSpanAtUptoRow.holds Try.pinned (OpenSpec.upto fnExactSpanAtSpec)

/-- 'laws.FnExactWidesOf', WHERE WHAT IT READS IS OF BULK AT MOST 1048576: true; the input reads as it did. -/
def fnExactWidesOfUptoRow : OpenClaim := { program := "ytbacfaddljjopaa", sum := "6a0d989219a8949351affc03da7a0c881b9b25658be9a25a76bb2edbc0114a54", func := "loop.example/colophon/laws.FnExactWidesOf", spec := "fnExactWidesOf", apart := false, narrowed := true }
def FnExactWidesOfUptoSaid : Prop := fnExactWidesOfUptoRow.holds Try.pinned (OpenSpec.upto fnExactWidesOfSpec)

/-- 'laws.FnExactFillCost', WHERE WHAT IT READS IS OF BULK AT MOST 1048576: true; the input reads as it did. -/
def fnExactFillCostUptoRow : OpenClaim := { program := "ytbacfaddljjopaa", sum := "6a0d989219a8949351affc03da7a0c881b9b25658be9a25a76bb2edbc0114a54", func := "loop.example/colophon/laws.FnExactFillCost", spec := "fnExactFillCost", unfollowed := true, recurses := true, apart := false, narrowed := true }
def FnExactFillCostUptoSaid : Prop := fnExactFillCostUptoRow.holds Try.pinned (OpenSpec.upto fnExactFillCostSpec)

/-- 'laws.FnExactFillFits', WHERE WHAT IT READS IS OF BULK AT MOST 1048576: true; the input reads as it did. -/
def fnExactFillFitsUptoRow : OpenClaim := { program := "ytbacfaddljjopaa", sum := "6a0d989219a8949351affc03da7a0c881b9b25658be9a25a76bb2edbc0114a54", func := "loop.example/colophon/laws.FnExactFillFits", spec := "fnExactFillFits", unfollowed := true, recurses := true, apart := false, narrowed := true }
def FnExactFillFitsUptoSaid : Prop := fnExactFillFitsUptoRow.holds Try.pinned (OpenSpec.upto fnExactFillFitsSpec)

end Rows
end Go.Proofs.Ytbacfaddljjopaa
