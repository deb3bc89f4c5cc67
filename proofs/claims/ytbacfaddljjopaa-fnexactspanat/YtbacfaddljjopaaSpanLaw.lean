import Derived.Test.YtbacfaddljjopaaSpanAt
import Derived.Test.YtbacfaddljjopaaSpanAid
namespace Go.Proofs.Ytbacfaddljjopaa
open Go.ChangeShapes Go.WideShapes Go.ChangeAt Go.RowKit
set_option linter.unusedSimpArgs false

set_option maxHeartbeats 4000000 in
theorem spanAtWalk (a : Option Addr) (n cap : Nat) (l : List Int) (c : Int) (w : World) (hv : ArgL w a n cap l) :
    Calls Try.prog 5 #[.slice a n cap, .int .i64 c] w fun e w' => e = .returned (.bool true) ∧ Below w.heap.size w w' := by
  by_cases hbig : 1048576 < n
  · have hm : n ≤ maxLen := Nat.le_trans hv.1 hv.2.1
    go_enter Try.func5, Try.ntmps5
    go_wp2_with fail
    refine (szSpans_big a n cap w hbig hm).mono ?_
    rintro e w1 ⟨rfl, rfl⟩
    go_wp2_with fail
    go_ret
    exact ⟨rfl, Below.refl _ _⟩
  · have hl : n ≤ 1048576 := by omega
    obtain ⟨r, hr⟩ : ∃ r, spanAt (fn l) n c = r := ⟨_, rfl⟩
    have HR : Hid _ := hr
    clear hr
    go_enter Try.func5, Try.ntmps5
    go_wp2_with fail
    refine (szSpans_any a n cap w hl).mono ?_
    rintro e w1 ⟨rfl, rfl⟩
    go_wp2_with fail
    refine (toSpans_any a n cap l _ hv hl).mono ?_
    rintro e w1 ⟨⟨g1, rfl, o1⟩, b1⟩
    go_wp2_with fail
    refine (specSpanAt _ n l c _ o1.arg hl r HR).mono ?_
    rintro e w2 ⟨rfl, b2⟩
    have B2 := bstep b1 b2
    go_wp2_with fail
    refine (toSpans_any a n cap l _ (hv.below B2) hl).mono ?_
    rintro e w3 ⟨⟨g3, rfl, o3⟩, b3⟩
    have B3 := bstep B2 b3
    go_wp2_with fail
    refine (implSpanAt _ n l c _ o3.arg r HR).mono ?_
    rintro e w4 ⟨rfl, b4⟩
    have B4 := bstep B3 b4
    go_wp2_with fail
    refine (toSpans_any a n cap l _ (hv.below B4) hl).mono ?_
    rintro e w5 ⟨⟨g5, rfl, o5⟩, b5⟩
    have B5 := bstep B4 b5
    go_wp2_with fail
    refine (eqSpans_yes _ _ n l _ ((o3.below b4).below b5).arg o5.arg (by omega)).mono ?_
    rintro e w6 ⟨rfl, b6⟩
    go_wp2_with fail
    go_ret
    exact ⟨rfl, bstep B5 b6⟩
end Go.Proofs.Ytbacfaddljjopaa
