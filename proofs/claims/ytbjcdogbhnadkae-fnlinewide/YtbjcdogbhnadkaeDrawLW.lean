import Derived.Test.YtbjcdogbhnadkaeDrawSp
import Derived.Test.YtbjcdogbhnadkaeDraw4
import Derived.Test.YtbjcdogbhnadkaeWidesFn
namespace Go.Proofs.Ytbjcdogbhnadkae
open Go.ChangeShapes Go.WideShapes Go.ChangeAt Go.RowKit
set_option linter.unusedSimpArgs false

theorem Rd.keep {w w' : World} {R p : Nat} (h : Rd w R p) (hb : Below w.heap.size w w') : Rd w' R p :=
  h.beside (row := none) ⟨hb.os, hb.tape, hb.output, hb.size, fun k hk _ => hb.block k hk⟩ (fun k hk => by cases hk)

set_option maxHeartbeats 1000000 in
theorem line_any (R p cnt : Nat) (w : World) (hr : Rd w R p) (hp : p ≤ 90000) (hc : cnt ≤ 1000) :
    Calls Try.prog 56 #[.pointer (some ⟨R, 0, none⟩), .int .i64 cnt] w fun e w' => (∃ f t : Nat, e = .returned (.tuple #[.int .i64 f, .int .i64 t]) ∧ f ≤ t ∧ t ≤ cnt) ∧ Went w w' R (p + 2) := by
  go_enter Try.func56, Try.ntmps56
  go_wp2_with fail
  refine (pick_went R p _ _ hr (by omega) (by omega) (by omega)).mono ?_
  rintro e w1 ⟨⟨f, rfl, hf⟩, hW1, hz1⟩
  clear hz1
  have H1 : Hid _ := hW1
  have hr1 := hW1.rd
  clear hW1
  go_wp2_with fail
  refine (pick_went R (p + 1) _ _ hr1 (by omega) (by omega) (by omega)).mono ?_
  rintro e w2 ⟨⟨d, rfl, hd⟩, hW2, hz2⟩
  clear hz2
  have H2 : Hid _ := hW2
  clear hW2
  go_wp2_with fail
  refine bodyPost_ret (v := .tuple #[.int .i64 f, .int .i64 ((f : Int) + (d : Int))]) (by simp [results, Try.results56, go_sem]) rfl ⟨⟨f, f + d, ?_, by omega, by omega⟩, H1.out.trans H2.out⟩
  rw [show ((f + d : Nat) : Int) = (f : Int) + (d : Int) by omega]
end Go.Proofs.Ytbjcdogbhnadkae
