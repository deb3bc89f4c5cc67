import Derived.Test.YtbjcdogbhnadkauLWideFn
import Derived.Test.YtbjcdogbhnadkauLawKit
namespace Go.Proofs.Ytbjcdogbhnadkau
open Go.ChangeShapes Go.WideShapes Go.ChangeAt Go.RowKit
set_option linter.unusedSimpArgs false

set_option maxHeartbeats 4000000 in
theorem lineWideWalk (v u : Value) (l y : List Int) (f t : Int) (w : World) (a c : Option Addr) (cap cp : Nat) (hva : v = .slice a l.length cap) (hv : Arg w v l) (hua : u = .slice c y.length cp) (hu : Arg w u y) :
    Calls Try.prog 5 #[v, u, .int .i64 f, .int .i64 t] w fun e w' => e = .returned (.bool true) ∧ Below w.heap.size w w' := by
  subst hva
  subst hua
  by_cases hbig : 1048576 < l.length
  · have hbig2 : (1048576 : Int) < (l.length : Int) := by omega
    go_enter Try.func5, Try.ntmps5
    go_wp2_with fail
    go_ret
    exact ⟨rfl, Below.refl _ _⟩
  · have hl : l.length ≤ 1048576 := by omega
    have hl2 : (l.length : Int) ≤ 1048576 := by omega
    by_cases hbig : 1048576 < y.length
    · have hbig2 : (1048576 : Int) < (y.length : Int) := by omega
      go_enter Try.func5, Try.ntmps5
      go_wp2_with fail
      go_ret
      exact ⟨rfl, Below.refl _ _⟩
    · have hy : y.length ≤ 1048576 := by omega
      have hy2 : (y.length : Int) ≤ 1048576 := by omega
      obtain ⟨r, hr⟩ : ∃ r, lw (fn l) (fn y) l.length y.length f t = r := ⟨_, rfl⟩
      have HR : Hid _ := hr
      clear hr
      go_enter Try.func5, Try.ntmps5
      go_wp2_with fail
      refine (toInt_any _ l _ hv hl).mono ?_
      rintro e w1 ⟨⟨g1, rfl, o1⟩, b1⟩
      go_wp2_with fail
      refine (toInt_any _ y _ (hu.below b1) hy).mono ?_
      rintro e w2 ⟨⟨g2, rfl, o2⟩, b2⟩
      go_wp2_with fail
      refine (specLW _ _ l y f t _ (o1.below b2).arg o2.arg hl hy r HR).mono ?_
      rintro e w3 ⟨rfl, b3⟩
      go_wp2_with fail
      have B3 := bstep (bstep b1 b2) b3
      refine (toInt_any _ l _ (hv.below B3) hl).mono ?_
      rintro e w4 ⟨⟨g4, rfl, o4⟩, b4⟩
      go_wp2_with fail
      have B4 := bstep B3 b4
      refine (toInt_any _ y _ (hu.below B4) hy).mono ?_
      rintro e w5 ⟨⟨g5, rfl, o5⟩, b5⟩
      go_wp2_with fail
      have B5 := bstep B4 b5
      refine (implLW _ _ l y f t _ (o4.below b5).arg o5.arg hl hy r HR).mono ?_
      rintro e w6 ⟨rfl, b6⟩
      go_wp2_with fail
      have B6 := bstep B5 b6
      refine (toInt_any _ l _ (hv.below B6) hl).mono ?_
      rintro e w7 ⟨⟨g7, rfl, o7⟩, b7⟩
      go_wp2_with fail
      refine (eqI_yes _ _ l _ (((o4.below b5).below b6).below b7).arg o7.arg (by omega)).mono ?_
      rintro e w8 ⟨rfl, b8⟩
      go_wp2_with fail
      have B8 := bstep (bstep B6 b7) b8
      refine (toInt_any _ y _ (hu.below B8) hy).mono ?_
      rintro e w9 ⟨⟨g9, rfl, o9⟩, b9⟩
      go_wp2_with fail
      refine (eqI_yes _ _ y _ ((((o5.below b6).below b7).below b8).below b9).arg o9.arg (by omega)).mono ?_
      rintro e w10 ⟨rfl, b10⟩
      go_wp2_with fail
      go_ret
      exact ⟨rfl, bstep (bstep B8 b9) b10⟩
end Go.Proofs.Ytbjcdogbhnadkau
