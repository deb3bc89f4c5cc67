import Derived.Test.YteefeciiaekdlaaCutTop
import Derived.Test.YteefeciiaekdlaaCutSpec
import Derived.Test.YteefeciiaekdlaaRunTo
import Derived.Test.YteefeciiaekdlaaRunAid
import Derived.Test.YteefeciiaekdlaaLawRunsA
namespace Go.Proofs.Yteefeciiaekdlaa
open Go.ChangeShapes Go.WideShapes Go.ChangeAt Go.RowKit
set_option linter.unusedSimpArgs false

set_option maxRecDepth 10000 in
set_option maxHeartbeats 8000000 in
theorem runsCutWalk (a0 : Option Addr) (n0 cap0 : Nat) (l0 : List Int) (a1 : Option Addr) (n1 cap1 : Nat) (l1 : List Int) (w : World) (hv0 : ArgT w a0 n0 cap0 l0) (hv1 : ArgT w a1 n1 cap1 l1) :
    Calls Try.prog 8 #[.slice a0 n0 cap0, .slice a1 n1 cap1] w fun e w' => e = .returned (.bool true) ∧ Below w.heap.size w w' := by
  have HV0 : Hid (∀ w', Below w.heap.size w w' → ArgT w' a0 n0 cap0 l0) := fun w' b => hv0.below b
  have HV1 : Hid (∀ w', Below w.heap.size w w' → ArgT w' a1 n1 cap1 l1) := fun w' b => hv1.below b
  have hm0 : n0 ≤ maxLen := Nat.le_trans hv0.1 hv0.2.1
  have hm1 : n1 ≤ maxLen := Nat.le_trans hv1.1 hv1.2.1
  by_cases hbig0 : 1048576 < n0
  · have hb0 : (1048576 : Int) < (n0 : Int) := by omega
    go_enter Try.func8, Try.ntmps8
    go_wp2_with fail
    refine (szRuns_big a0 n0 cap0 1048576 w hb0 (by omega) hm0).mono ?_
    rintro e w1 ⟨rfl, rfl⟩
    go_wp2_with fail
    go_ret
    exact ⟨rfl, Below.refl _ _⟩
  have hl0 : n0 ≤ 1048576 := by omega
  have hi0 : (n0 : Int) ≤ 1048576 := by omega
  have hj0 : (0 : Int) ≤ 1048576 - (n0 : Int) := by omega
  by_cases hbig1 : 1048576 < n0 + n1
  · have hb1 : 1048576 - (n0 : Int) < (n1 : Int) := by omega
    go_enter Try.func8, Try.ntmps8
    go_wp2_with fail
    refine (szRuns_any a0 n0 cap0 1048576 w hi0 (by omega)).mono ?_
    rintro e w1 ⟨rfl, rfl⟩
    go_wp2_with fail
    refine (szRuns_big a1 n1 cap1 _ _ hb1 hj0 hm1).mono ?_
    rintro e w1 ⟨rfl, rfl⟩
    go_wp2_with fail
    go_ret
    exact ⟨rfl, Below.refl _ _⟩
  have hl1 : n1 ≤ 1048576 := by omega
  have hi1 : (n1 : Int) ≤ 1048576 - (n0 : Int) := by omega
  have hj1 : (0 : Int) ≤ 1048576 - (n0 : Int) - (n1 : Int) := by omega
  obtain ⟨M, hM, hM2⟩ := cutL_len l0 l1 n0 n1
  obtain ⟨R, hR⟩ : ∃ R, cutL l0 l1 n0 n1 = R := ⟨_, rfl⟩
  have HR : Hid _ := hR
  rw [hR] at hM
  have HM : Hid (R.length = M * 3) := hM
  clear hR hM
  go_enter Try.func8, Try.ntmps8
  go_wp2_with fail
  refine (szRuns_any a0 n0 cap0 1048576 w hi0 (by omega)).mono ?_
  rintro e w0 ⟨rfl, rfl⟩
  go_wp2_with fail
  refine (szRuns_any a1 n1 cap1 _ _ hi1 (by omega)).mono ?_
  rintro e w00 ⟨rfl, rfl⟩
  go_wp2_with fail
  refine (toRuns_any a0 n0 cap0 l0 _ (HV0.out _ (Below.refl _ _)) hl0).mono ?_
  rintro e w1 ⟨⟨g1, rfl, o1⟩, b1⟩
  have B1 := b1
  have s1 := b1.size
  have t1 := o1.lt g1 rfl
  go_wp2_with fail
  refine (toRuns_any a1 n1 cap1 l1 _ (HV1.out _ B1) hl1).mono ?_
  rintro e w2 ⟨⟨g2, rfl, o2⟩, b2⟩
  replace o1 := o1.below b2
  have B2 := bstep B1 b2
  have s2 := b2.size
  have t2 := o2.lt g2 rfl
  go_wp2_with fail
  refine (specCut _ _ n0 n1 _ _ l0 l1 _ o1 o2).mono ?_
  rintro e w3 ⟨⟨vw, mw, rfl, rw⟩, b3⟩
  replace o1 := o1.below b3
  replace o2 := o2.below b3
  have B3 := bstep B2 b3
  have s3 := b3.size
  rw [HR.out] at rw
  have emw : mw = M := by have := rw.len; have := HM.out; omega
  rw [emw] at rw
  clear emw
  have tw := rw.lt
  go_wp2_with fail
  refine (toRuns_any a0 n0 cap0 l0 _ (HV0.out _ B3) hl0).mono ?_
  rintro e w4 ⟨⟨g4, rfl, o4⟩, b4⟩
  replace rw := rw.below b4
  have B4 := bstep B3 b4
  have s4 := b4.size
  have t4 := o4.lt g4 rfl
  go_wp2_with fail
  refine (toRuns_any a1 n1 cap1 l1 _ (HV1.out _ B4) hl1).mono ?_
  rintro e w5 ⟨⟨g5, rfl, o5⟩, b5⟩
  replace rw := rw.below b5
  replace o4 := o4.below b5
  have B5 := bstep B4 b5
  have s5 := b5.size
  have t5 := o5.lt g5 rfl
  go_wp2_with fail
  refine (implCut _ _ n0 n1 _ _ l0 l1 _ o4 o5).mono ?_
  rintro e w6 ⟨⟨vg, mg, rfl, rg⟩, b6⟩
  replace rw := rw.below b6
  replace o4 := o4.below b6
  replace o5 := o5.below b6
  have B6 := bstep B5 b6
  have s6 := b6.size
  rw [HR.out] at rg
  have emg : mg = M := by have := rg.len; have := HM.out; omega
  rw [emg] at rg
  clear emg
  have tg := rg.lt
  go_wp2_with fail
  refine (eqRuns_yes _ _ M M _ _ R _ rg rw (by omega)).mono ?_
  rintro e w7 ⟨rfl, b7⟩
  replace rw := rw.below b7
  replace o4 := o4.below b7
  replace o5 := o5.below b7
  replace rg := rg.below b7
  have B7 := bstep B6 b7
  have s7 := b7.size
  go_wp2_with fail
  refine (toRuns_any a0 n0 cap0 l0 _ (HV0.out _ B7) hl0).mono ?_
  rintro e w8 ⟨⟨g8, rfl, o8⟩, b8⟩
  replace rw := rw.below b8
  replace o4 := o4.below b8
  replace o5 := o5.below b8
  replace rg := rg.below b8
  have B8 := bstep B7 b8
  have s8 := b8.size
  have t8 := o8.lt g8 rfl
  go_wp2_with fail
  refine (eqRuns_yes _ _ n0 n0 _ _ l0 _ o4 o8 (by omega)).mono ?_
  rintro e w9 ⟨rfl, b9⟩
  replace rw := rw.below b9
  replace o4 := o4.below b9
  replace o5 := o5.below b9
  replace rg := rg.below b9
  replace o8 := o8.below b9
  have B9 := bstep B8 b9
  have s9 := b9.size
  go_wp2_with fail
  refine (toRuns_any a1 n1 cap1 l1 _ (HV1.out _ B9) hl1).mono ?_
  rintro e w10 ⟨⟨g10, rfl, o10⟩, b10⟩
  replace rw := rw.below b10
  replace o4 := o4.below b10
  replace o5 := o5.below b10
  replace rg := rg.below b10
  have B10 := bstep B9 b10
  have s10 := b10.size
  have t10 := o10.lt g10 rfl
  go_wp2_with fail
  refine (eqRuns_yes _ _ n1 n1 _ _ l1 _ o5 o10 (by omega)).mono ?_
  rintro e w11 ⟨rfl, b11⟩
  replace rw := rw.below b11
  replace o4 := o4.below b11
  replace o5 := o5.below b11
  replace rg := rg.below b11
  replace o10 := o10.below b11
  have B11 := bstep B10 b11
  have s11 := b11.size
  go_wp2_with fail
  refine (markR _ n0 l0 _ _ _ o4 (by omega) (by omega) (by omega)).mono ?_
  rintro e w12 ⟨rfl, n12, gr12⟩
  replace rw := rw.beside gr12 (fun k hk hk2 => by have qhk := tw _ hk; have qhk2 := t4; have ehk2 : k = g4 := (by simp [Value.ownBlock] at hk2; omega); omega)
  replace o5 := o5.beside gr12 (fun k hk hk2 => by have qhk := t5; have ehk : k = g5 := (by simp [Value.ownBlock] at hk; omega); have qhk2 := t4; have ehk2 : k = g4 := (by simp [Value.ownBlock] at hk2; omega); omega)
  replace rg := rg.beside gr12 (fun k hk hk2 => by have qhk := tg _ hk; have qhk2 := t4; have ehk2 : k = g4 := (by simp [Value.ownBlock] at hk2; omega); omega)
  have B12 := B11.grown gr12 B11.size (fun k hk => by have qhk := t4; have ehk : k = g4 := (by simp [Value.ownBlock] at hk; omega); have q := B1.size; omega)
  have s12 := gr12.size
  replace o4 := n12
  go_wp2_with fail
  refine (markR _ n1 l1 _ _ _ o5 (by omega) (by omega) (by omega)).mono ?_
  rintro e w13 ⟨rfl, n13, gr13⟩
  replace rw := rw.beside gr13 (fun k hk hk2 => by have qhk := tw _ hk; have qhk2 := t5; have ehk2 : k = g5 := (by simp [Value.ownBlock] at hk2; omega); omega)
  replace o4 := o4.beside gr13 (fun k hk hk2 => by have qhk := t4; have ehk : k = g4 := (by simp [Value.ownBlock] at hk; omega); have qhk2 := t5; have ehk2 : k = g5 := (by simp [Value.ownBlock] at hk2; omega); omega)
  replace rg := rg.beside gr13 (fun k hk hk2 => by have qhk := tg _ hk; have qhk2 := t5; have ehk2 : k = g5 := (by simp [Value.ownBlock] at hk2; omega); omega)
  have B13 := B12.grown gr13 B12.size (fun k hk => by have qhk := t5; have ehk : k = g5 := (by simp [Value.ownBlock] at hk; omega); have q := B1.size; omega)
  have s13 := gr13.size
  replace o5 := n13
  go_wp2_with fail
  refine (eqRuns_yes _ _ M M _ _ R _ rg rw (by omega)).mono ?_
  rintro e w14 ⟨rfl, b14⟩
  replace rw := rw.below b14
  replace o4 := o4.below b14
  replace o5 := o5.below b14
  replace rg := rg.below b14
  have B14 := bstep B13 b14
  have s14 := b14.size
  go_wp2_with fail
  refine (markR _ M R _ _ _ rg (by omega) (by omega) (by omega)).mono ?_
  rintro e w15 ⟨rfl, n15, gr15⟩
  replace rw := rw.beside gr15 (fun k hk hk2 => by have qhk := tw _ hk; have qhk2 := tg _ hk2; omega)
  have B15 := B14.grown gr15 B14.size (fun k hk => by have qhk := tg _ hk; have q := B1.size; omega)
  have s15 := gr15.size
  replace rg := n15
  go_wp2_with fail
  refine (heldR _ M _ 1 _ rg (by omega) (by omega) (by omega)).mono ?_
  rintro e wh ⟨rfl, rfl⟩
  go_wp2_with fail
  refine (toRuns_any a0 n0 cap0 l0 _ (HV0.out _ B15) hl0).mono ?_
  rintro e w16 ⟨⟨g16, rfl, o16⟩, b16⟩
  replace rw := rw.below b16
  replace rg := rg.below b16
  have B16 := bstep B15 b16
  have s16 := b16.size
  have t16 := o16.lt g16 rfl
  go_wp2_with fail
  refine (toRuns_any a1 n1 cap1 l1 _ (HV1.out _ B16) hl1).mono ?_
  rintro e w17 ⟨⟨g17, rfl, o17⟩, b17⟩
  replace rw := rw.below b17
  replace rg := rg.below b17
  replace o16 := o16.below b17
  have B17 := bstep B16 b17
  have s17 := b17.size
  have t17 := o17.lt g17 rfl
  go_wp2_with fail
  refine (implCut _ _ n0 n1 _ _ l0 l1 _ o16 o17).mono ?_
  rintro e w18 ⟨⟨vh, mh, rfl, rh⟩, b18⟩
  replace rw := rw.below b18
  replace rg := rg.below b18
  replace o16 := o16.below b18
  replace o17 := o17.below b18
  have B18 := bstep B17 b18
  have s18 := b18.size
  rw [HR.out] at rh
  have emh : mh = M := by have := rh.len; have := HM.out; omega
  rw [emh] at rh
  clear emh
  have th := rh.lt
  go_wp2_with fail
  refine (eqRuns_yes _ _ M M _ _ R _ rh rw (by omega)).mono ?_
  rintro e w19 ⟨rfl, b19⟩
  replace rw := rw.below b19
  replace rg := rg.below b19
  replace rh := rh.below b19
  have B19 := bstep B18 b19
  have s19 := b19.size
  go_wp2_with fail
  refine (heldR _ M _ 1 _ rg (by omega) (by omega) (by omega)).mono ?_
  rintro e wh ⟨rfl, rfl⟩
  go_wp2_with fail
  go_ret
  exact ⟨rfl, B19⟩
end Go.Proofs.Yteefeciiaekdlaa
