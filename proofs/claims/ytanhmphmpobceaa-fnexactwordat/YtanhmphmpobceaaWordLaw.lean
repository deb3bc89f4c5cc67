import Derived.Test.YtanhmphmpobceaaWordF
import Derived.Test.YtanhmphmpobceaaLawKit
namespace Go.Proofs.Ytanhmphmpobceaa
open Go.ChangeShapes Go.WideShapes Go.ChangeAt Go.RowKit
set_option linter.unusedSimpArgs false

set_option maxHeartbeats 4000000 in
theorem wordAtWalk (v : Value) (l : List Int) (t : Int) (w : World) (a : Option Addr) (cap : Nat) (hva : v = .slice a l.length cap) (hv : Arg w v l) :
    Calls Try.prog 7 #[v, .int .i64 t] w fun e w' => e = .returned (.bool true) ∧ Below w.heap.size w w' := by
  subst hva
  by_cases hbig : 1048576 < l.length
  · have hbig2 : (1048576 : Int) < (l.length : Int) := by omega
    go_enter Try.func7, Try.ntmps7
    go_wp2_with fail
    go_ret
    exact ⟨rfl, Below.refl _ _⟩
  · have hl : l.length ≤ 1048576 := by omega
    have hl4 : l.length ≤ 4194304 := by omega
    have hl2 : (l.length : Int) ≤ 1048576 := by omega
    go_enter Try.func7, Try.ntmps7
    go_wp2_with fail
    refine (toInt_any _ l _ hv hl).mono ?_
    rintro e w1 ⟨⟨g1, rfl, o1⟩, b1⟩
    go_wp2_with fail
    refine (specWordAt _ l _ _ _ _ _ (show Hid (l.length = l.length) from rfl) rfl o1.arg hl4).mono ?_
    rintro e w2 ⟨⟨f, u, rfl, hA⟩, b2⟩
    go_wp2_with fail
    have hB2 := bstep b1 b2
    refine (toInt_any _ l _ (hv.below hB2) hl).mono ?_
    rintro e w3 ⟨⟨gx, rfl, ox⟩, b3⟩
    go_wp2_with fail
    refine (implWordAt _ l _ _ _ _ _ (show Hid (l.length = l.length) from rfl) rfl ox.arg hl4).mono ?_
    rintro e w4 ⟨⟨f', u', rfl, hA'⟩, b4⟩
    obtain ⟨rfl, rfl⟩ := hA.one hA'
    clear hA hA'
    go_wp2_with fail
    refine (toInt_any _ l _ (hv.below (bstep (bstep hB2 b3) b4)) hl).mono ?_
    rintro e w6 ⟨⟨g6, rfl, o6⟩, b6⟩
    go_wp2_with fail
    refine (eqI_yes _ _ l _ ((ox.below b4).below b6).arg o6.arg hl4).mono ?_
    rintro e w7 ⟨rfl, b7⟩
    go_wp2_with fail
    go_ret
    exact ⟨rfl, bstep (bstep (bstep (bstep hB2 b3) b4) b6) b7⟩

set_option maxHeartbeats 4000000 in
theorem wordCountWalk (v : Value) (l : List Int) (w : World) (a : Option Addr) (cap : Nat) (hva : v = .slice a l.length cap) (hv : Arg w v l) :
    Calls Try.prog 8 #[v] w fun e w' => e = .returned (.bool true) ∧ Below w.heap.size w w' := by
  subst hva
  by_cases hbig : 1048576 < l.length
  · have hbig2 : (1048576 : Int) < (l.length : Int) := by omega
    go_enter Try.func8, Try.ntmps8
    go_wp2_with fail
    go_ret
    exact ⟨rfl, Below.refl _ _⟩
  · have hl : l.length ≤ 1048576 := by omega
    have hl4 : l.length ≤ 4194304 := by omega
    have hl2 : (l.length : Int) ≤ 1048576 := by omega
    go_enter Try.func8, Try.ntmps8
    go_wp2_with fail
    refine (toInt_any _ l _ hv hl).mono ?_
    rintro e w1 ⟨⟨g1, rfl, o1⟩, b1⟩
    go_wp2_with fail
    refine (specWordCount _ l _ o1.arg hl4).mono ?_
    rintro e w2 ⟨rfl, b2⟩
    go_wp2_with fail
    have hB2 := bstep b1 b2
    refine (toInt_any _ l _ (hv.below hB2) hl).mono ?_
    rintro e w3 ⟨⟨gx, rfl, ox⟩, b3⟩
    go_wp2_with fail
    refine (implWordCount _ l _ ox.arg hl4).mono ?_
    rintro e w4 ⟨rfl, b4⟩
    go_wp2_with fail
    refine (toInt_any _ l _ (hv.below (bstep (bstep hB2 b3) b4)) hl).mono ?_
    rintro e w6 ⟨⟨g6, rfl, o6⟩, b6⟩
    go_wp2_with fail
    refine (eqI_yes _ _ l _ ((ox.below b4).below b6).arg o6.arg hl4).mono ?_
    rintro e w7 ⟨rfl, b7⟩
    go_wp2_with fail
    go_ret
    exact ⟨rfl, bstep (bstep (bstep (bstep hB2 b3) b4) b6) b7⟩
end Go.Proofs.Ytanhmphmpobceaa
