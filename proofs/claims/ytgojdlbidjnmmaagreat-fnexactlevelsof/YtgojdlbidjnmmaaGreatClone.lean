import Derived.Test.YtgojdlbidjnmmaaGreatAppendAll
import Derived.Lib.SliceRun
namespace Go.Proofs.YtgojdlbidjnmmaaGreat
open Go.ChangeShapes Go.WideShapes Go.ChangeAt Go.RowKit
set_option linter.unusedSimpArgs false

set_option maxHeartbeats 1000000 in
theorem clone_row (b off n cap : Nat) (l : List Int) (w : World) (hn : l.length = n) (hl : n ≤ 1048576) (hat : At w b off l) (hb : b < w.heap.size) :
    Calls Tryz.prog 32 #[.slice (some ⟨b, off, none⟩) n cap] w fun e w' => (∃ v', e = .returned v' ∧ OwnI w' w.heap.size v' l) ∧ Below w.heap.size w w' := by
  have HN : Hid _ := hn
  clear hn
  have hnil := fun (w : World) (a : Option Addr) (n c : Nat) => Lib.run_eql_slice_nil (P := Tryz.prog) w 23 3 a n c 0 0 Tryz.underlying23
  go_enter Tryz.func32, Tryz.ntmps32
  have ho := own_empty w w.heap.size 3 (Nat.le_refl _) rfl
  have hat2 : At (w.alloc (.cells #[] 3)) b off l := hat.below (B := w.heap.size) ((Below.refl _ _).alloc (Nat.le_refl _) _) hb
  go_wp2_with (at_builtin; refine own_appendAll (.tmp 5) (.tmp 6) ho HN.out (by simp; omega) (by simp) hat2 rfl rfl rfl rfl ?_; intro v5 w5 hown5 hgr5)
  go_ret
  refine ⟨⟨_, rfl, by simpa using hown5⟩, ?_⟩
  refine ((Below.refl _ _).alloc (Nat.le_refl _) _).grown hgr5 (by simp) (fun k hk => ?_)
  simp [Value.ownBlock] at hk
  omega

set_option maxHeartbeats 1000000 in
theorem clone_any (v : Value) (l : List Int) (w : World) (hv : Arg w v l) (hl : l.length ≤ 1048576) :
    Calls Tryz.prog 32 #[v] w fun e w' => (∃ v', e = .returned v' ∧ OwnI w' w.heap.size v' l) ∧ Below w.heap.size w w' := by
  rcases hv with ⟨a, cap, rfl, rfl⟩ | ⟨b, off, cap, rfl, hb, hlc, hcm, hat⟩
  · cases a with
    | none =>
      have hnil := fun (w : World) (a : Option Addr) (n c : Nat) => Lib.run_eql_slice_nil (P := Tryz.prog) w 23 3 a n c 0 0 Tryz.underlying23
      go_enter Tryz.func32, Tryz.ntmps32
      go_wp2
      go_ret
      exact ⟨⟨_, rfl, OwnI.nil _ _⟩, Below.refl _ _⟩
    | some ad =>
      have hnil := fun (w : World) (a : Option Addr) (n c : Nat) => Lib.run_eql_slice_nil (P := Tryz.prog) w 23 3 a n c 0 0 Tryz.underlying23
      go_enter Tryz.func32, Tryz.ntmps32
      have ho := own_empty w w.heap.size 3 (Nat.le_refl _) rfl
      go_wp2
      go_ret
      exact ⟨⟨_, rfl, ho⟩, by go_grown⟩
  · exact clone_row b off l.length cap l w rfl hl hat hb
end Go.Proofs.YtgojdlbidjnmmaaGreat
