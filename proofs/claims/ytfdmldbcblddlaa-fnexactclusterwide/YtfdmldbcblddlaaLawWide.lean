import Derived.Test.YtfdmldbcblddlaaClusWide2
import Derived.Test.YtfdmldbcblddlaaLawAid
namespace Go.Proofs.Ytfdmldbcblddlaa
open Go.ChangeShapes Go.WideShapes Go.ChangeAt Go.RowKit
set_option linter.unusedSimpArgs false

theorem eqInt_tru (v1 v2 : Value) (l : List Int) (w : World) (h1 : Arg w v1 l) (h2 : Arg w v2 l) (hl : l.length ≤ 4194304) :
    Calls Try.prog 21 #[v1, v2] w fun e w' => e = .returned (.bool true) ∧ Below w.heap.size w w' := by
  refine (eqInt_any v1 v2 l l w h1 h2 hl).mono ?_
  rintro e w' ⟨rfl, n, rfl⟩
  exact ⟨retBool (eqB_self l), below_draws w n⟩

set_option maxHeartbeats 4000000 in
theorem cwWalk (v : Value) (l : List Int) (t : Int) (w : World) (a : Option Addr) (cap : Nat) (hva : v = .slice a l.length cap) (hv : Arg w v l) :
    Calls Try.prog 5 #[v, .int .i64 t] w fun e w' => e = .returned (.bool true) ∧ Below w.heap.size w w' := by
  obtain ⟨W, hW⟩ := wideIs_some l t
  subst hva
  by_cases hbig : 1048576 < l.length
  · have hbig2 : (1048576 : Int) < (l.length : Int) := by omega
    go_enter Try.func5, Try.ntmps5
    go_wp2_with fail
    go_ret
    exact ⟨rfl, Below.refl _ _⟩
  · have hl : l.length ≤ 1048576 := by omega
    have hl4 : l.length ≤ 4194304 := by omega
    have hl2 : (l.length : Int) ≤ 1048576 := by omega
    go_enter Try.func5, Try.ntmps5
    go_wp2_with fail
    refine (toInt_any _ l _ hv hl).mono ?_
    rintro e w1 ⟨⟨g1, rfl, o1⟩, b1⟩
    go_wp2_with fail
    refine (specCW _ l _ _ W _ _ _ (show Hid (l.length = l.length) from rfl) rfl o1.arg hl4 hW).mono ?_
    rintro e w2 ⟨rfl, b2⟩
    go_wp2_with fail
    have hB2 := bstep b1 b2
    refine (toInt_any _ l _ (hv.below hB2) hl).mono ?_
    rintro e w3 ⟨⟨gx, rfl, ox⟩, b3⟩
    go_wp2_with fail
    refine (implCW _ l _ _ W _ _ _ (show Hid (l.length = l.length) from rfl) rfl ox.arg hl4 hW).mono ?_
    rintro e w4 ⟨rfl, b4⟩
    go_wp2_with fail
    refine (toInt_any _ l _ (hv.below (bstep (bstep hB2 b3) b4)) hl).mono ?_
    rintro e w6 ⟨⟨g6, rfl, o6⟩, b6⟩
    go_wp2_with fail
    refine (eqInt_tru _ _ l _ ((ox.below b4).below b6).arg o6.arg hl4).mono ?_
    rintro e w7 ⟨rfl, b7⟩
    go_wp2_with fail
    go_ret
    exact ⟨rfl, bstep (bstep (bstep (bstep hB2 b3) b4) b6) b7⟩
end Go.Proofs.Ytfdmldbcblddlaa
