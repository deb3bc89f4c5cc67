import Derived.Test.YteefeciiaekdlaaScrTop
import Derived.Test.YteefeciiaekdlaaScrTopS
import Derived.Test.YteefeciiaekdlaaRunTop
namespace Go.Proofs.Yteefeciiaekdlaa
open Go.ChangeShapes Go.WideShapes Go.ChangeAt Go.RowKit
set_option linter.unusedSimpArgs false

set_option maxHeartbeats 1000000 in
theorem implSR (v : Value) (l : List Int) (w : World) (hv : Arg w v l) (hl2 : l.length ≤ 1048576) :
    Calls Try.prog 17 #[v] w fun e w' => (∃ v' m, e = .returned v' ∧ OwnR w' w.heap.size v' m (runsR (scripts l))) ∧ Below w.heap.size w w' := by
  have hsl := scripts_len l
  go_enter Try.func17, Try.ntmps17
  go_wp2_with fail
  refine (implScripts v l _ hv hl2).mono ?_
  rintro e w2 ⟨⟨v2, rfl, o2⟩, b2⟩
  have a2 : Hid (Arg w2 v2 (scripts l)) := o2.arg
  clear o2
  go_wp2_with fail
  refine (implRuns _ (scripts l) _ a2.out (by omega)).mono ?_
  rintro e w3 ⟨⟨v3, m3, rfl, o3⟩, b3⟩
  go_wp2_with fail
  go_ret
  exact ⟨⟨_, m3, rfl, o3.mono b2.size⟩, bstep b2 b3⟩

set_option maxHeartbeats 1000000 in
theorem specSR (v : Value) (l : List Int) (w : World) (hv : Arg w v l) (hl2 : l.length ≤ 1048576) :
    Calls Try.prog 23 #[v] w fun e w' => (∃ v' m, e = .returned v' ∧ OwnR w' w.heap.size v' m (runsR (scripts l))) ∧ Below w.heap.size w w' := by
  have hsl := scripts_len l
  go_enter Try.func23, Try.ntmps23
  go_wp2_with fail
  refine (specScriptsOf v l _ hv hl2).mono ?_
  rintro e w2 ⟨⟨v2, rfl, o2⟩, b2⟩
  have a2 : Hid (Arg w2 v2 (scripts l)) := o2.arg
  clear o2
  go_wp2_with fail
  refine (specRuns _ (scripts l) _ a2.out (by omega)).mono ?_
  rintro e w3 ⟨⟨v3, m3, rfl, o3⟩, b3⟩
  go_wp2_with fail
  go_ret
  exact ⟨⟨_, m3, rfl, o3.mono b2.size⟩, bstep b2 b3⟩
end Go.Proofs.Yteefeciiaekdlaa
