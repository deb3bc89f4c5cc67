import Derived.Test.YtbeecmcgdlnakaaDrawTold
namespace Go.Proofs.Ytbeecmcgdlnakaa
open Go.ChangeShapes Go.WideShapes Go.ChangeAt Go.RowKit
set_option linter.unusedSimpArgs false
theorem drawRuns2 (a : Option Addr) (len cap : Nat) (w : World) (h : Bytes w a len cap) :
    Calls Try.prog 15 #[.slice a len cap] w fun e w' => (∃ v l b, e = .returned (.tuple #[v, .int .i64 b]) ∧ OwnI w' w.heap.size v l ∧ l.length ≤ 81) ∧ Below w.heap.size w w' := by
  go_enter Try.func15, Try.ntmps15
  go_wp2_with fail
  refine (drawTold a len cap w h).mono ?_
  rintro e w1 ⟨⟨v, l, b, rfl, ho, hl⟩, b1⟩
  go_wp2_with fail
  go_ret2
  exact ⟨⟨v, l, b, rfl, ho, hl⟩, b1⟩
end Go.Proofs.Ytbeecmcgdlnakaa
