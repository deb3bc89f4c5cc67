import Derived.Test.YtbacfaddljjopaaWords
import Derived.Test.YtbacfaddljjopaaLawKit
namespace Go.Proofs.Ytbacfaddljjopaa
open Go.ChangeShapes Go.WideShapes Go.ChangeAt Go.RowKit
set_option linter.unusedSimpArgs false

set_option maxHeartbeats 4000000 in
theorem wordsWalk (v : Value) (l : List Int) (w : World) (a : Option Addr) (cap : Nat) (hva : v = .slice a l.length cap) (hv : Arg w v l) :
    Calls Try.prog 4 #[v] w fun e w' => e = .returned (.bool true) ∧ Below w.heap.size w w' := by
  subst hva
  by_cases hbig : 1048576 < l.length
  · have hbig2 : (1048576 : Int) < (l.length : Int) := by omega
    go_enter Try.func4, Try.ntmps4
    go_wp2_with fail
    go_ret
    exact ⟨rfl, Below.refl _ _⟩
  · have hl : l.length ≤ 1048576 := by omega
    have hl4 : l.length ≤ 4194304 := by omega
    have hl2 : (l.length : Int) ≤ 1048576 := by omega
    have hcl : (wdsR l).length ≤ l.length := wdsR_len l
    have hc4 : (wdsR l).length ≤ 4194304 := by omega
    have hc1 : (wdsR l).length ≤ 1048576 := by omega
    obtain ⟨R, hR⟩ : ∃ R, wdsR l = R := ⟨_, rfl⟩
    rw [hR] at hcl hc4 hc1
    have HR : Hid _ := hR
    clear hR
    go_enter Try.func4, Try.ntmps4
    go_wp2_with fail
    refine (toInt_any _ l _ hv hl).mono ?_
    rintro e w1 ⟨⟨g1, rfl, o1⟩, b1⟩
    go_wp2_with fail
    refine (specWords _ l _ o1.arg hl).mono ?_
    rintro e w2 ⟨⟨vw, rfl, ow⟩, b2⟩
    rw [HR.out] at ow
    go_wp2_with fail
    have hB2 := bstep b1 b2
    refine (toInt_any _ l _ (hv.below hB2) hl).mono ?_
    rintro e w3 ⟨⟨gx, rfl, ox⟩, b3⟩
    go_wp2_with fail
    refine (implWords _ l _ ox.arg hl).mono ?_
    rintro e w4 ⟨⟨vg, rfl, og⟩, b4⟩
    rw [HR.out] at og
    go_wp2_with fail
    refine (eqI_yes _ _ R _ og.arg ((ow.below b3).below b4).arg hc4).mono ?_
    rintro e w5 ⟨rfl, b5⟩
    go_wp2_with fail
    refine (toInt_any _ l _ (hv.below (bstep (bstep (bstep hB2 b3) b4) b5)) hl).mono ?_
    rintro e w6 ⟨⟨g6, rfl, o6⟩, b6⟩
    go_wp2_with fail
    refine (eqI_yes _ _ l _ (((ox.below b4).below b5).below b6).arg o6.arg hl4).mono ?_
    rintro e w7 ⟨rfl, b7⟩
    go_wp2_with fail
    have hgx := ox.lt gx rfl
    have nw : ∀ k, vw.ownBlock = some k → (Value.slice (some ⟨gx, 0, none⟩) l.length l.length).ownBlock ≠ some k := fun k hk e => by
      have := (ow.lt k hk).2; simp [Value.ownBlock] at e; omega
    have ng : ∀ k, vg.ownBlock = some k → (Value.slice (some ⟨gx, 0, none⟩) l.length l.length).ownBlock ≠ some k := fun k hk e => by
      have := (og.lt k hk).1; simp [Value.ownBlock] at e; omega
    have nwg : ∀ k, vw.ownBlock = some k → vg.ownBlock ≠ some k := fun k hk e => by
      have := (ow.lt k hk).2; have := (og.lt k e).1; have := b3.size; omega
    have hB7 := bstep (bstep (bstep (bstep (bstep hB2 b3) b4) b5) b6) b7
    have ox7 := (((ox.below b4).below b5).below b6).below b7
    have og7 := ((og.below b5).below b6).below b7
    have ow7 := ((((ow.below b3).below b4).below b5).below b6).below b7
    have s2 := hB2.size
    have s3 := (bstep hB2 b3).size
    refine (mark_any _ l _ 1 _ ox7 hl (by omega) (by omega)).mono ?_
    rintro e w8 ⟨rfl, ox8, gr8, sz8⟩
    have hB8 := grown_below hB7 gr8 ox7 s2 hB7.size
    have og8 := og7.aside gr8 ng
    have ow8 := ow7.aside gr8 nw
    clear sz8
    go_wp2_with fail
    refine (eqI_yes _ _ R _ og8.arg ow8.arg hc4).mono ?_
    rintro e w9 ⟨rfl, b9⟩
    go_wp2_with fail
    refine (mark_any _ R _ 1 _ (og8.below b9) (by omega) (by omega) (by omega)).mono ?_
    rintro e w10 ⟨rfl, og10, gr10, sz10⟩
    have ow10 := (ow8.below b9).aside gr10 nwg
    have hB10 := grown_below (bstep hB8 b9) gr10 (og8.below b9) s3 (bstep hB8 b9).size
    clear sz10
    go_wp2_with fail
    refine (held_any _ R.length 1 _ og10.arg (by omega) (by omega) (by omega)).mono ?_
    rintro e w11 ⟨rfl, rfl⟩
    go_wp2_with fail
    refine (toInt_any _ l _ (hv.below hB10) hl).mono ?_
    rintro e w12 ⟨⟨g12, rfl, o12⟩, b12⟩
    go_wp2_with fail
    refine (implWords _ l _ o12.arg hl).mono ?_
    rintro e w13 ⟨⟨vh, rfl, oh⟩, b13⟩
    rw [HR.out] at oh
    go_wp2_with fail
    refine (eqI_yes _ _ R _ oh.arg ((ow10.below b12).below b13).arg hc4).mono ?_
    rintro e w14 ⟨rfl, b14⟩
    go_wp2_with fail
    refine (held_any _ R.length 1 _ (((og10.below b12).below b13).below b14).arg (by omega) (by omega) (by omega)).mono ?_
    rintro e w15 ⟨rfl, rfl⟩
    go_wp2_with fail
    go_ret
    exact ⟨rfl, bstep (bstep (bstep hB10 b12) b13) b14⟩
end Go.Proofs.Ytbacfaddljjopaa
