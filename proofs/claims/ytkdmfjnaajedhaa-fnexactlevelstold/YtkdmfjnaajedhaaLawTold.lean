import Derived.Test.YtkdmfjnaajedhaaToldP
import Derived.Test.YtkdmfjnaajedhaaToldI5
import Derived.Test.YtkdmfjnaajedhaaLawKit
namespace Go.Proofs.Ytkdmfjnaajedhaa
open Go.ChangeShapes Go.WideShapes Go.ChangeAt Go.RowKit
set_option linter.unusedSimpArgs false

set_option maxHeartbeats 8000000 in
theorem toldWalk (v0 : Value) (l0 : List Int) (a0 : Option Addr) (cap0 : Nat) (x1 : Int) (w : World) (hva0 : v0 = .slice a0 l0.length cap0) (hv0 : Arg w v0 l0) :
    Calls Try.prog 3 #[v0, .int .i64 x1] w fun e w' => e = .returned (.bool true) ∧ Below w.heap.size w w' := by
  subst hva0
  have HV0 : Hid (∀ w', Below w.heap.size w w' → Arg w' (.slice a0 l0.length cap0) l0) := fun w' b => hv0.below b
  by_cases hbig0 : 1048576 < l0.length
  · have hb0 : (1048576 : Int) < (l0.length : Int) := by omega
    go_enter Try.func3, Try.ntmps3
    go_wp2_with fail
    go_ret
    exact ⟨rfl, Below.refl _ _⟩
  have hl0 : l0.length ≤ 1048576 := by omega
  have hi0 : (l0.length : Int) ≤ 1048576 := by omega
  obtain ⟨mt, hmt⟩ := mt_exists (cl l0) l0.length
  have HMT : Hid (MateFn (cl l0) l0.length mt) := hmt
  clear hmt
  obtain ⟨R0, hR0⟩ : ∃ R, toldL l0 mt x1 = R := ⟨_, rfl⟩
  have hc0 : R0.length ≤ 1048576 := by rw [← hR0]; have := toldL_le l0 mt x1; omega
  have HR0 : Hid _ := hR0
  clear hR0
  obtain ⟨R1, hR1⟩ : ∃ R, toldC l0 mt x1 = R := ⟨_, rfl⟩
  have hc1 : R1.length ≤ 1048576 := by rw [← hR1]; have := toldC_le l0 mt x1; omega
  have HR1 : Hid _ := hR1
  clear hR1
  go_enter Try.func3, Try.ntmps3
  go_wp2_with fail
  refine (toInt_any _ l0 _ (HV0.out _ (Below.refl _ _)) hl0).mono ?_
  rintro e w1 ⟨⟨g1, rfl, o1⟩, b1⟩
  have B1 := b1
  have s1 := b1.size
  have t1 := o1.lt g1 rfl
  go_wp2_with fail
  refine (specTold _ l0 mt x1 _ _ _ rfl o1.arg hl0 HMT).mono ?_
  rintro e w2 ⟨⟨vw0, vw1, rfl, rw0, rw1, apw⟩, b2⟩
  replace o1 := o1.below b2
  have B2 := bstep B1 b2
  have s2 := b2.size
  rw [HR0.out] at rw0
  have tw0 := rw0.lt
  rw [HR1.out] at rw1
  have tw1 := rw1.lt
  go_wp2_with fail
  refine (toInt_any _ l0 _ (HV0.out _ B2) hl0).mono ?_
  rintro e w3 ⟨⟨g3, rfl, o3⟩, b3⟩
  replace rw0 := rw0.below b3
  replace rw1 := rw1.below b3
  have B3 := bstep B2 b3
  have s3 := b3.size
  have t3 := o3.lt g3 rfl
  go_wp2_with fail
  refine (implTold _ l0 mt x1 _ _ _ rfl o3.arg hl0 HMT).mono ?_
  rintro e w4 ⟨⟨vg0, vg1, rfl, rg0, rg1, apg⟩, b4⟩
  replace rw0 := rw0.below b4
  replace rw1 := rw1.below b4
  replace o3 := o3.below b4
  have B4 := bstep B3 b4
  have s4 := b4.size
  rw [HR0.out] at rg0
  have tg0 := rg0.lt
  rw [HR1.out] at rg1
  have tg1 := rg1.lt
  go_wp2_with fail
  refine (eqI_yes _ _ R0 _ rg0.arg rw0.arg (by omega)).mono ?_
  rintro e w5 ⟨rfl, b5⟩
  replace rw0 := rw0.below b5
  replace rw1 := rw1.below b5
  replace o3 := o3.below b5
  replace rg0 := rg0.below b5
  replace rg1 := rg1.below b5
  have B5 := bstep B4 b5
  have s5 := b5.size
  go_wp2_with fail
  refine (eqI_yes _ _ R1 _ rg1.arg rw1.arg (by omega)).mono ?_
  rintro e w6 ⟨rfl, b6⟩
  replace rw0 := rw0.below b6
  replace rw1 := rw1.below b6
  replace o3 := o3.below b6
  replace rg0 := rg0.below b6
  replace rg1 := rg1.below b6
  have B6 := bstep B5 b6
  have s6 := b6.size
  go_wp2_with fail
  refine (toInt_any _ l0 _ (HV0.out _ B6) hl0).mono ?_
  rintro e w7 ⟨⟨g7, rfl, o7⟩, b7⟩
  replace rw0 := rw0.below b7
  replace rw1 := rw1.below b7
  replace o3 := o3.below b7
  replace rg0 := rg0.below b7
  replace rg1 := rg1.below b7
  have B7 := bstep B6 b7
  have s7 := b7.size
  have t7 := o7.lt g7 rfl
  go_wp2_with fail
  refine (eqI_yes _ _ l0 _ o3.arg o7.arg (by omega)).mono ?_
  rintro e w8 ⟨rfl, b8⟩
  replace rw0 := rw0.below b8
  replace rw1 := rw1.below b8
  replace o3 := o3.below b8
  replace rg0 := rg0.below b8
  replace rg1 := rg1.below b8
  replace o7 := o7.below b8
  have B8 := bstep B7 b8
  have s8 := b8.size
  go_wp2_with fail
  refine (mark_any _ l0 _ _ _ o3 (by omega) (by omega) (by omega)).mono ?_
  rintro e w9 ⟨rfl, n9, gr9, sz9⟩
  replace rw0 := rw0.aside gr9 (fun k hk hk2 => by have qhk := tw0 _ hk; have qhk2 := t3; have ehk2 : k = g3 := (by simp [Value.ownBlock] at hk2; omega); omega)
  replace rw1 := rw1.aside gr9 (fun k hk hk2 => by have qhk := tw1 _ hk; have qhk2 := t3; have ehk2 : k = g3 := (by simp [Value.ownBlock] at hk2; omega); omega)
  replace rg0 := rg0.aside gr9 (fun k hk hk2 => by have qhk := tg0 _ hk; have qhk2 := t3; have ehk2 : k = g3 := (by simp [Value.ownBlock] at hk2; omega); omega)
  replace rg1 := rg1.aside gr9 (fun k hk hk2 => by have qhk := tg1 _ hk; have qhk2 := t3; have ehk2 : k = g3 := (by simp [Value.ownBlock] at hk2; omega); omega)
  have B9 := B8.grown gr9 B8.size (fun k hk => by have qhk := t3; have ehk : k = g3 := (by simp [Value.ownBlock] at hk; omega); have q := B1.size; omega)
  have s9 : w8.heap.size ≤ w9.heap.size := by omega
  replace o3 := n9
  clear sz9
  go_wp2_with fail
  refine (eqI_yes _ _ R0 _ rg0.arg rw0.arg (by omega)).mono ?_
  rintro e w10 ⟨rfl, b10⟩
  replace rw0 := rw0.below b10
  replace rw1 := rw1.below b10
  replace o3 := o3.below b10
  replace rg0 := rg0.below b10
  replace rg1 := rg1.below b10
  have B10 := bstep B9 b10
  have s10 := b10.size
  go_wp2_with fail
  refine (eqI_yes _ _ R1 _ rg1.arg rw1.arg (by omega)).mono ?_
  rintro e w11 ⟨rfl, b11⟩
  replace rw0 := rw0.below b11
  replace rw1 := rw1.below b11
  replace o3 := o3.below b11
  replace rg0 := rg0.below b11
  replace rg1 := rg1.below b11
  have B11 := bstep B10 b11
  have s11 := b11.size
  go_wp2_with fail
  refine (mark_any _ R0 _ _ _ rg0 (by omega) (by omega) (by omega)).mono ?_
  rintro e w12 ⟨rfl, n12, gr12, sz12⟩
  replace rw0 := rw0.aside gr12 (fun k hk hk2 => by have qhk := tw0 _ hk; have qhk2 := tg0 _ hk2; omega)
  replace rw1 := rw1.aside gr12 (fun k hk hk2 => by have qhk := tw1 _ hk; have qhk2 := tg0 _ hk2; omega)
  replace rg1 := rg1.aside gr12 (fun k hk hk2 => apg k hk2 hk)
  have B12 := B11.grown gr12 B11.size (fun k hk => by have qhk := tg0 _ hk; have q := B1.size; omega)
  have s12 : w11.heap.size ≤ w12.heap.size := by omega
  replace rg0 := n12
  clear sz12
  go_wp2_with fail
  refine (mark_any _ R1 _ _ _ rg1 (by omega) (by omega) (by omega)).mono ?_
  rintro e w13 ⟨rfl, n13, gr13, sz13⟩
  replace rw0 := rw0.aside gr13 (fun k hk hk2 => by have qhk := tw0 _ hk; have qhk2 := tg1 _ hk2; omega)
  replace rw1 := rw1.aside gr13 (fun k hk hk2 => by have qhk := tw1 _ hk; have qhk2 := tg1 _ hk2; omega)
  replace rg0 := rg0.aside gr13 (fun k hk hk2 => apg k hk hk2)
  have B13 := B12.grown gr13 B12.size (fun k hk => by have qhk := tg1 _ hk; have q := B1.size; omega)
  have s13 : w12.heap.size ≤ w13.heap.size := by omega
  replace rg1 := n13
  clear sz13
  go_wp2_with fail
  refine (heldB_any _ R0.length _ _ rg0.arg (by omega) (by omega) (by omega)).mono ?_
  rintro e w14 ⟨rfl, b14⟩
  replace rw0 := rw0.below b14
  replace rw1 := rw1.below b14
  replace rg0 := rg0.below b14
  replace rg1 := rg1.below b14
  have B14 := bstep B13 b14
  have s14 := b14.size
  go_wp2_with fail
  refine (heldB_any _ R1.length _ _ rg1.arg (by omega) (by omega) (by omega)).mono ?_
  rintro e w15 ⟨rfl, b15⟩
  replace rw0 := rw0.below b15
  replace rw1 := rw1.below b15
  replace rg0 := rg0.below b15
  replace rg1 := rg1.below b15
  have B15 := bstep B14 b15
  have s15 := b15.size
  go_wp2_with fail
  refine (toInt_any _ l0 _ (HV0.out _ B15) hl0).mono ?_
  rintro e w16 ⟨⟨g16, rfl, o16⟩, b16⟩
  replace rw0 := rw0.below b16
  replace rw1 := rw1.below b16
  replace rg0 := rg0.below b16
  replace rg1 := rg1.below b16
  have B16 := bstep B15 b16
  have s16 := b16.size
  have t16 := o16.lt g16 rfl
  go_wp2_with fail
  refine (implTold _ l0 mt x1 _ _ _ rfl o16.arg hl0 HMT).mono ?_
  rintro e w17 ⟨⟨vh0, vh1, rfl, rh0, rh1, aph⟩, b17⟩
  replace rw0 := rw0.below b17
  replace rw1 := rw1.below b17
  replace rg0 := rg0.below b17
  replace rg1 := rg1.below b17
  replace o16 := o16.below b17
  have B17 := bstep B16 b17
  have s17 := b17.size
  rw [HR0.out] at rh0
  have th0 := rh0.lt
  rw [HR1.out] at rh1
  have th1 := rh1.lt
  go_wp2_with fail
  refine (eqI_yes _ _ R0 _ rh0.arg rw0.arg (by omega)).mono ?_
  rintro e w18 ⟨rfl, b18⟩
  replace rw0 := rw0.below b18
  replace rw1 := rw1.below b18
  replace rg0 := rg0.below b18
  replace rg1 := rg1.below b18
  replace rh0 := rh0.below b18
  replace rh1 := rh1.below b18
  have B18 := bstep B17 b18
  have s18 := b18.size
  go_wp2_with fail
  refine (eqI_yes _ _ R1 _ rh1.arg rw1.arg (by omega)).mono ?_
  rintro e w19 ⟨rfl, b19⟩
  replace rw0 := rw0.below b19
  replace rw1 := rw1.below b19
  replace rg0 := rg0.below b19
  replace rg1 := rg1.below b19
  replace rh0 := rh0.below b19
  replace rh1 := rh1.below b19
  have B19 := bstep B18 b19
  have s19 := b19.size
  go_wp2_with fail
  refine (heldB_any _ R0.length _ _ rg0.arg (by omega) (by omega) (by omega)).mono ?_
  rintro e w20 ⟨rfl, b20⟩
  replace rw0 := rw0.below b20
  replace rw1 := rw1.below b20
  replace rg0 := rg0.below b20
  replace rg1 := rg1.below b20
  replace rh0 := rh0.below b20
  replace rh1 := rh1.below b20
  have B20 := bstep B19 b20
  have s20 := b20.size
  go_wp2_with fail
  refine (heldB_any _ R1.length _ _ rg1.arg (by omega) (by omega) (by omega)).mono ?_
  rintro e w21 ⟨rfl, b21⟩
  replace rw0 := rw0.below b21
  replace rw1 := rw1.below b21
  replace rg0 := rg0.below b21
  replace rg1 := rg1.below b21
  replace rh0 := rh0.below b21
  replace rh1 := rh1.below b21
  have B21 := bstep B20 b21
  have s21 := b21.size
  go_wp2_with fail
  go_ret
  exact ⟨rfl, B21⟩
end Go.Proofs.Ytkdmfjnaajedhaa
