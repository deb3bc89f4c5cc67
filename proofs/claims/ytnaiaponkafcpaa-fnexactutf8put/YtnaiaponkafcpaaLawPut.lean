import Derived.Test.YtnaiaponkafcpaaUtf8I
import Derived.Test.YtnaiaponkafcpaaLawKit
namespace Go.Proofs.Ytnaiaponkafcpaa
open Go.ChangeShapes Go.WideShapes Go.ChangeAt Go.RowKit
set_option linter.unusedSimpArgs false

set_option maxHeartbeats 2000000 in
theorem putWalk (v : Value) (l : List Int) (w : World) (a : Option Addr) (cap : Nat) (hva : v = .slice a l.length cap) (hv : Arg w v l) :
    Calls Try.prog 6 #[v] w fun e w' => e = .returned (.bool true) ∧ Below w.heap.size w w' := by
  subst hva
  by_cases hbig : 1048576 < l.length
  · have hbig2 : (1048576 : Int) < (l.length : Int) := by omega
    go_enter Try.func6, Try.ntmps6
    go_wp2_with fail
    go_ret
    exact ⟨rfl, Below.refl _ _⟩
  · have hl : l.length ≤ 1048576 := by omega
    have hl4 : l.length ≤ 4194304 := by omega
    have hl2 : (l.length : Int) ≤ 1048576 := by omega
    obtain ⟨R, hR⟩ : ∃ R, putS l = R := ⟨_, rfl⟩
    have HR : Hid _ := hR
    clear hR
    go_enter Try.func6, Try.ntmps6
    go_wp2_with fail
    refine (toInt_any _ l _ hv hl).mono ?_
    rintro e w1 ⟨⟨g1, rfl, o1⟩, b1⟩
    go_wp2_with fail
    refine (specPut _ l _ o1.arg hl4).mono ?_
    rintro e w2 ⟨rfl, b2⟩
    rw [HR.out]
    go_wp2_with fail
    have hB2 := bstep b1 b2
    refine (toInt_any _ l _ (hv.below hB2) hl).mono ?_
    rintro e w3 ⟨⟨gx, rfl, ox⟩, b3⟩
    go_wp2_with fail
    refine (implPut _ l _ ox.arg hl4).mono ?_
    rintro e w4 ⟨rfl, b4⟩
    rw [HR.out]
    go_wp2_with fail
    have hB4 := bstep (bstep hB2 b3) b4
    refine (toInt_any _ l _ (hv.below hB4) hl).mono ?_
    rintro e w5 ⟨⟨g5, rfl, o5⟩, b5⟩
    go_wp2_with fail
    refine (eqI_yes _ _ l _ ((ox.below b4).below b5).arg o5.arg hl4).mono ?_
    rintro e w6 ⟨rfl, b6⟩
    go_wp2_with fail
    go_ret
    exact ⟨rfl, bstep (bstep hB4 b5) b6⟩
end Go.Proofs.Ytnaiaponkafcpaa
