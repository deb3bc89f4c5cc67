import Derived.Test.YtbeecmcgdlnakaaMtT
import Derived.Test.YtbeecmcgdlnakaaRRLaw
import Derived.Test.YtbeecmcgdlnakaaLawKit
namespace Go.Proofs.Ytbeecmcgdlnakaa
open Go.ChangeShapes Go.WideShapes Go.ChangeAt Go.RowKit
set_option linter.unusedSimpArgs false

set_option maxHeartbeats 8000000 in
theorem matesWalk (v0 : Value) (l0 : List Int) (a0 : Option Addr) (cap0 : Nat) (v1 : Value) (l1 : List Int) (a1 : Option Addr) (cap1 : Nat) (w : World) (hva0 : v0 = .slice a0 l0.length cap0) (hv0 : Arg w v0 l0) (hva1 : v1 = .slice a1 l1.length cap1) (hv1 : Arg w v1 l1) :
    Calls Try.prog 8 #[v0, v1] w fun e w' => e = .returned (.bool true) ∧ Below w.heap.size w w' := by
  subst hva0
  have HV0 : Hid (∀ w', Below w.heap.size w w' → Arg w' (.slice a0 l0.length cap0) l0) := fun w' b => hv0.below b
  subst hva1
  have HV1 : Hid (∀ w', Below w.heap.size w w' → Arg w' (.slice a1 l1.length cap1) l1) := fun w' b => hv1.below b
  by_cases hbig0 : 1048576 < l0.length
  · have hb0 : (1048576 : Int) < (l0.length : Int) := by omega
    go_enter Try.func8, Try.ntmps8
    go_wp2_with fail
    go_ret
    exact ⟨rfl, Below.refl _ _⟩
  have hl0 : l0.length ≤ 1048576 := by omega
  have hi0 : (l0.length : Int) ≤ 1048576 := by omega
  by_cases hbig1 : 1048576 < l1.length
  · have hb1 : (1048576 : Int) < (l1.length : Int) := by omega
    go_enter Try.func8, Try.ntmps8
    go_wp2_with fail
    go_ret
    exact ⟨rfl, Below.refl _ _⟩
  have hl1 : l1.length ≤ 1048576 := by omega
  have hi1 : (l1.length : Int) ≤ 1048576 := by omega
  obtain ⟨R0, hR0⟩ : ∃ R, mateR l0 l1 = R := ⟨_, rfl⟩
  have hc0 : totR R0 ≤ 1048576 := by rw [← hR0]; have := (mateR_all l0 l1).2; omega
  have hd0 : R0.length ≤ 1048576 := by rw [← hR0]; have := (mateR_all l0 l1).1; omega
  have HR0 : Hid _ := hR0
  clear hR0
  go_enter Try.func8, Try.ntmps8
  go_wp2_with fail
  refine (toInt_any _ l0 _ (HV0.out _ (Below.refl _ _)) hl0).mono ?_
  rintro e w1 ⟨⟨g1, rfl, o1⟩, b1⟩
  have B1 := b1
  have s1 := b1.size
  have t1 := o1.lt g1 rfl
  go_wp2_with fail
  refine (toInt_any _ l1 _ (HV1.out _ B1) hl1).mono ?_
  rintro e w2 ⟨⟨g2, rfl, o2⟩, b2⟩
  replace o1 := o1.below b2
  have B2 := bstep B1 b2
  have s2 := b2.size
  have t2 := o2.lt g2 rfl
  go_wp2_with fail
  refine (specMates l0 l1 _ _ _ _ _ o1.arg o2.arg hl0 hl1).mono ?_
  rintro e w3 ⟨⟨vw0, rfl, ⟨uw0, rw0⟩⟩, b3⟩
  replace o1 := o1.below b3
  replace o2 := o2.below b3
  have B3 := bstep B2 b3
  have s3 := b3.size
  rw [HR0.out] at rw0
  have tw0 := rw0.ltb
  go_wp2_with fail
  refine (toInt_any _ l0 _ (HV0.out _ B3) hl0).mono ?_
  rintro e w4 ⟨⟨g4, rfl, o4⟩, b4⟩
  replace rw0 := rw0.below b4
  have B4 := bstep B3 b4
  have s4 := b4.size
  have t4 := o4.lt g4 rfl
  go_wp2_with fail
  refine (toInt_any _ l1 _ (HV1.out _ B4) hl1).mono ?_
  rintro e w5 ⟨⟨g5, rfl, o5⟩, b5⟩
  replace rw0 := rw0.below b5
  replace o4 := o4.below b5
  have B5 := bstep B4 b5
  have s5 := b5.size
  have t5 := o5.lt g5 rfl
  go_wp2_with fail
  refine (implMates l0 l1 _ _ _ _ _ o4.arg o5.arg hl0 hl1).mono ?_
  rintro e w6 ⟨⟨vg0, rfl, ⟨ug0, rg0⟩⟩, b6⟩
  replace rw0 := rw0.below b6
  replace o4 := o4.below b6
  replace o5 := o5.below b6
  have B6 := bstep B5 b6
  have s6 := b6.size
  rw [HR0.out] at rg0
  have tg0 := rg0.ltb
  go_wp2_with fail
  refine (eqSS_yes _ _ _ _ R0 _ _ _ rg0 rw0 (by omega) (by omega)).mono ?_
  rintro e w7 ⟨rfl, b7⟩
  replace rw0 := rw0.below b7
  replace o4 := o4.below b7
  replace o5 := o5.below b7
  replace rg0 := rg0.below b7
  have B7 := bstep B6 b7
  have s7 := b7.size
  go_wp2_with fail
  refine (toInt_any _ l0 _ (HV0.out _ B7) hl0).mono ?_
  rintro e w8 ⟨⟨g8, rfl, o8⟩, b8⟩
  replace rw0 := rw0.below b8
  replace o4 := o4.below b8
  replace o5 := o5.below b8
  replace rg0 := rg0.below b8
  have B8 := bstep B7 b8
  have s8 := b8.size
  have t8 := o8.lt g8 rfl
  go_wp2_with fail
  refine (eqI_yes _ _ l0 _ o4.arg o8.arg (by omega)).mono ?_
  rintro e w9 ⟨rfl, b9⟩
  replace rw0 := rw0.below b9
  replace o4 := o4.below b9
  replace o5 := o5.below b9
  replace rg0 := rg0.below b9
  replace o8 := o8.below b9
  have B9 := bstep B8 b9
  have s9 := b9.size
  go_wp2_with fail
  refine (toInt_any _ l1 _ (HV1.out _ B9) hl1).mono ?_
  rintro e w10 ⟨⟨g10, rfl, o10⟩, b10⟩
  replace rw0 := rw0.below b10
  replace o4 := o4.below b10
  replace o5 := o5.below b10
  replace rg0 := rg0.below b10
  have B10 := bstep B9 b10
  have s10 := b10.size
  have t10 := o10.lt g10 rfl
  go_wp2_with fail
  refine (eqI_yes _ _ l1 _ o5.arg o10.arg (by omega)).mono ?_
  rintro e w11 ⟨rfl, b11⟩
  replace rw0 := rw0.below b11
  replace o4 := o4.below b11
  replace o5 := o5.below b11
  replace rg0 := rg0.below b11
  replace o10 := o10.below b11
  have B11 := bstep B10 b11
  have s11 := b11.size
  go_wp2_with fail
  refine (mark_any _ l0 _ _ _ o4 (by omega) (by omega) (by omega)).mono ?_
  rintro e w12 ⟨rfl, n12, gr12, sz12⟩
  replace rw0 := rw0.aside gr12 (fun k hk hk2 => by have qhk := tw0 _ hk; have qhk2 := t4; have ehk2 : k = g4 := (by simp [Value.ownBlock] at hk2; omega); omega)
  replace o5 := o5.aside gr12 (fun k hk hk2 => by have qhk := t5; have ehk : k = g5 := (by simp [Value.ownBlock] at hk; omega); have qhk2 := t4; have ehk2 : k = g4 := (by simp [Value.ownBlock] at hk2; omega); omega)
  replace rg0 := rg0.aside gr12 (fun k hk hk2 => by have qhk := tg0 _ hk; have qhk2 := t4; have ehk2 : k = g4 := (by simp [Value.ownBlock] at hk2; omega); omega)
  have B12 := B11.grown gr12 B11.size (fun k hk => by have qhk := t4; have ehk : k = g4 := (by simp [Value.ownBlock] at hk; omega); have q := B1.size; omega)
  have s12 : w11.heap.size ≤ w12.heap.size := by omega
  replace o4 := n12
  clear sz12
  go_wp2_with fail
  refine (mark_any _ l1 _ _ _ o5 (by omega) (by omega) (by omega)).mono ?_
  rintro e w13 ⟨rfl, n13, gr13, sz13⟩
  replace rw0 := rw0.aside gr13 (fun k hk hk2 => by have qhk := tw0 _ hk; have qhk2 := t5; have ehk2 : k = g5 := (by simp [Value.ownBlock] at hk2; omega); omega)
  replace o4 := o4.aside gr13 (fun k hk hk2 => by have qhk := t4; have ehk : k = g4 := (by simp [Value.ownBlock] at hk; omega); have qhk2 := t5; have ehk2 : k = g5 := (by simp [Value.ownBlock] at hk2; omega); omega)
  replace rg0 := rg0.aside gr13 (fun k hk hk2 => by have qhk := tg0 _ hk; have qhk2 := t5; have ehk2 : k = g5 := (by simp [Value.ownBlock] at hk2; omega); omega)
  have B13 := B12.grown gr13 B12.size (fun k hk => by have qhk := t5; have ehk : k = g5 := (by simp [Value.ownBlock] at hk; omega); have q := B1.size; omega)
  have s13 : w12.heap.size ≤ w13.heap.size := by omega
  replace o5 := n13
  clear sz13
  go_wp2_with fail
  refine (eqSS_yes _ _ _ _ R0 _ _ _ rg0 rw0 (by omega) (by omega)).mono ?_
  rintro e w14 ⟨rfl, b14⟩
  replace rw0 := rw0.below b14
  replace o4 := o4.below b14
  replace o5 := o5.below b14
  replace rg0 := rg0.below b14
  have B14 := bstep B13 b14
  have s14 := b14.size
  go_wp2_with fail
  refine (markSS_any _ _ R0 _ _ _ rg0 (by omega) (by omega) (by omega) (by omega)).mono ?_
  rintro e w15 ⟨rfl, n15, gr15⟩
  replace rw0 := rw0.swept gr15 (fun k hk hk2 => by have qhk := tw0 _ hk; have qhk2 := tg0 _ hk2; omega)
  have B15 := belowSwept B14 gr15 B14.size (fun k hk => by have qhk := tg0 _ hk; have q := B1.size; omega)
  have s15 : w14.heap.size ≤ w15.heap.size := Nat.le_of_eq gr15.size.symm
  replace rg0 := n15
  go_wp2_with fail
  refine (heldSS_any _ _ R0 _ _ _ rg0 (by omega) (by omega) (by omega) (by omega)).mono ?_
  rintro e w16 ⟨rfl, b16⟩
  replace rw0 := rw0.below b16
  replace rg0 := rg0.below b16
  have B16 := bstep B15 b16
  have s16 := b16.size
  go_wp2_with fail
  refine (toInt_any _ l0 _ (HV0.out _ B16) hl0).mono ?_
  rintro e w17 ⟨⟨g17, rfl, o17⟩, b17⟩
  replace rw0 := rw0.below b17
  replace rg0 := rg0.below b17
  have B17 := bstep B16 b17
  have s17 := b17.size
  have t17 := o17.lt g17 rfl
  go_wp2_with fail
  refine (toInt_any _ l1 _ (HV1.out _ B17) hl1).mono ?_
  rintro e w18 ⟨⟨g18, rfl, o18⟩, b18⟩
  replace rw0 := rw0.below b18
  replace rg0 := rg0.below b18
  replace o17 := o17.below b18
  have B18 := bstep B17 b18
  have s18 := b18.size
  have t18 := o18.lt g18 rfl
  go_wp2_with fail
  refine (implMates l0 l1 _ _ _ _ _ o17.arg o18.arg hl0 hl1).mono ?_
  rintro e w19 ⟨⟨vh0, rfl, ⟨uh0, rh0⟩⟩, b19⟩
  replace rw0 := rw0.below b19
  replace rg0 := rg0.below b19
  replace o17 := o17.below b19
  replace o18 := o18.below b19
  have B19 := bstep B18 b19
  have s19 := b19.size
  rw [HR0.out] at rh0
  have th0 := rh0.ltb
  go_wp2_with fail
  refine (eqSS_yes _ _ _ _ R0 _ _ _ rh0 rw0 (by omega) (by omega)).mono ?_
  rintro e w20 ⟨rfl, b20⟩
  replace rw0 := rw0.below b20
  replace rg0 := rg0.below b20
  replace rh0 := rh0.below b20
  have B20 := bstep B19 b20
  have s20 := b20.size
  go_wp2_with fail
  refine (heldSS_any _ _ R0 _ _ _ rg0 (by omega) (by omega) (by omega) (by omega)).mono ?_
  rintro e w21 ⟨rfl, b21⟩
  replace rw0 := rw0.below b21
  replace rg0 := rg0.below b21
  replace rh0 := rh0.below b21
  have B21 := bstep B20 b21
  have s21 := b21.size
  go_wp2_with fail
  go_ret
  exact ⟨rfl, B21⟩
end Go.Proofs.Ytbeecmcgdlnakaa
