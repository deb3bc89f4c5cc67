import Derived.Test.YtobmdefklgkoiaaSpPS5
import Derived.Test.YtobmdefklgkoiaaSpPI
import Derived.Test.YtobmdefklgkoiaaSpLen
import Derived.Test.YtobmdefklgkoiaaSpanMark
import Derived.Test.YtobmdefklgkoiaaSpHeld
namespace Go.Proofs.Ytobmdefklgkoiaa
open Go.ChangeShapes Go.WideShapes Go.ChangeAt Go.RowKit
set_option linter.unusedSimpArgs false

set_option maxHeartbeats 8000000 in
theorem spansMoveWalk (a0 : Option Addr) (n0 cap0 : Nat) (l0 : List Int) (x1 : Int) (x2 : Int) (x3 : Int) (w : World) (hv0 : ArgL w a0 n0 cap0 l0) :
    Calls Try.prog 7 #[.slice a0 n0 cap0, .int .i64 x1, .int .i64 x2, .int .i64 x3] w fun e w' => e = .returned (.bool true) ∧ Below w.heap.size w w' := by
  have HV0 : Hid (∀ w', Below w.heap.size w w' → ArgL w' a0 n0 cap0 l0) := fun w' b => hv0.below b
  by_cases hbig0 : 1048576 < n0
  · have hm0 : n0 ≤ maxLen := Nat.le_trans hv0.1 hv0.2.1
    go_enter Try.func7, Try.ntmps7
    go_wp2_with fail
    refine (szSpans_big a0 n0 cap0 w hbig0 hm0).mono ?_
    rintro e w1 ⟨rfl, rfl⟩
    go_wp2_with fail
    go_ret
    exact ⟨rfl, Below.refl _ _⟩
  have hl0 : n0 ≤ 1048576 := by omega
  have hi0 : (n0 : Int) ≤ 1048576 := by omega
  obtain ⟨R0, hR0⟩ : ∃ R, spR 0 (moveS (fn l0) n0 x1 x2 x3) = R := ⟨_, rfl⟩
  obtain ⟨M0, hM0⟩ : ∃ M, (spQ 0 (moveS (fn l0) n0 x1 x2 x3)).length = M := ⟨_, rfl⟩
  have hc0 : M0 ≤ 1048576 := by rw [← hM0]; exact move_len _ _ _ _ _
  have HR0 : Hid _ := hR0
  have HM0 : Hid _ := hM0
  clear hR0 hM0
  go_enter Try.func7, Try.ntmps7
  go_wp2_with fail
  refine (szSpans_any a0 n0 cap0 w hl0).mono ?_
  rintro e w0 ⟨rfl, rfl⟩
  go_wp2_with fail
  refine (toSpans_any a0 n0 cap0 l0 _ (HV0.out _ (Below.refl _ _)) hl0).mono ?_
  rintro e w1 ⟨⟨g1, rfl, o1⟩, b1⟩
  have B1 := b1
  have s1 := b1.size
  have t1 := o1.lt g1 rfl
  go_wp2_with fail
  refine (specMoveS _ n0 l0 x1 x2 x3 _ o1.arg hl0).mono ?_
  rintro e w2 ⟨⟨vw0, rfl, rw0⟩, b2⟩
  replace o1 := o1.below b2
  have B2 := bstep B1 b2
  have s2 := b2.size
  rw [HR0.out, HM0.out] at rw0
  have tw0 := rw0.lt
  go_wp2_with fail
  refine (toSpans_any a0 n0 cap0 l0 _ (HV0.out _ B2) hl0).mono ?_
  rintro e w3 ⟨⟨g3, rfl, o3⟩, b3⟩
  replace rw0 := rw0.below b3
  have B3 := bstep B2 b3
  have s3 := b3.size
  have t3 := o3.lt g3 rfl
  go_wp2_with fail
  refine (implMove _ n0 l0 x1 x2 x3 _ o3.arg).mono ?_
  rintro e w4 ⟨⟨vg0, rfl, rg0⟩, b4⟩
  replace rw0 := rw0.below b4
  replace o3 := o3.below b4
  have B4 := bstep B3 b4
  have s4 := b4.size
  rw [HR0.out, HM0.out] at rg0
  have tg0 := rg0.lt
  go_wp2_with fail
  refine (eqSpans_yes _ _ M0 R0 _ rg0.arg rw0.arg (by omega)).mono ?_
  rintro e w5 ⟨rfl, b5⟩
  replace rw0 := rw0.below b5
  replace o3 := o3.below b5
  replace rg0 := rg0.below b5
  have B5 := bstep B4 b5
  have s5 := b5.size
  go_wp2_with fail
  refine (toSpans_any a0 n0 cap0 l0 _ (HV0.out _ B5) hl0).mono ?_
  rintro e w6 ⟨⟨g6, rfl, o6⟩, b6⟩
  replace rw0 := rw0.below b6
  replace o3 := o3.below b6
  replace rg0 := rg0.below b6
  have B6 := bstep B5 b6
  have s6 := b6.size
  have t6 := o6.lt g6 rfl
  go_wp2_with fail
  refine (eqSpans_yes _ _ n0 l0 _ o3.arg o6.arg (by omega)).mono ?_
  rintro e w7 ⟨rfl, b7⟩
  replace rw0 := rw0.below b7
  replace o3 := o3.below b7
  replace rg0 := rg0.below b7
  replace o6 := o6.below b7
  have B7 := bstep B6 b7
  have s7 := b7.size
  go_wp2_with fail
  refine (markS_any _ n0 _ _ _ _ o3 (by omega) (by omega) (by omega)).mono ?_
  rintro e w8 ⟨rfl, n8, gr8, sz8⟩
  replace rw0 := rw0.aside gr8 (fun k hk hk2 => by have qhk := tw0 _ hk; have qhk2 := t3; have ehk2 : k = g3 := (by simp [Value.ownBlock] at hk2; omega); omega)
  replace rg0 := rg0.aside gr8 (fun k hk hk2 => by have qhk := tg0 _ hk; have qhk2 := t3; have ehk2 : k = g3 := (by simp [Value.ownBlock] at hk2; omega); omega)
  have B8 := B7.grown gr8 B7.size (fun k hk => by have qhk := t3; have ehk : k = g3 := (by simp [Value.ownBlock] at hk; omega); have q := B1.size; omega)
  have s8 : w7.heap.size ≤ w8.heap.size := by omega
  replace o3 := n8
  clear sz8
  go_wp2_with fail
  refine (eqSpans_yes _ _ M0 R0 _ rg0.arg rw0.arg (by omega)).mono ?_
  rintro e w9 ⟨rfl, b9⟩
  replace rw0 := rw0.below b9
  replace o3 := o3.below b9
  replace rg0 := rg0.below b9
  have B9 := bstep B8 b9
  have s9 := b9.size
  go_wp2_with fail
  refine (markS_any _ M0 _ _ _ _ rg0 (by omega) (by omega) (by omega)).mono ?_
  rintro e w10 ⟨rfl, n10, gr10, sz10⟩
  replace rw0 := rw0.aside gr10 (fun k hk hk2 => by have qhk := tw0 _ hk; have qhk2 := tg0 _ hk2; omega)
  have B10 := B9.grown gr10 B9.size (fun k hk => by have qhk := tg0 _ hk; have q := B1.size; omega)
  have s10 : w9.heap.size ≤ w10.heap.size := by omega
  replace rg0 := n10
  clear sz10
  go_wp2_with fail
  refine (heldS_any _ M0 _ _ rg0.arg (by omega) (by omega) (by omega)).mono ?_
  rintro e w11 ⟨rfl, b11⟩
  replace rw0 := rw0.below b11
  replace rg0 := rg0.below b11
  have B11 := bstep B10 b11
  have s11 := b11.size
  go_wp2_with fail
  refine (toSpans_any a0 n0 cap0 l0 _ (HV0.out _ B11) hl0).mono ?_
  rintro e w12 ⟨⟨g12, rfl, o12⟩, b12⟩
  replace rw0 := rw0.below b12
  replace rg0 := rg0.below b12
  have B12 := bstep B11 b12
  have s12 := b12.size
  have t12 := o12.lt g12 rfl
  go_wp2_with fail
  refine (implMove _ n0 l0 x1 x2 x3 _ o12.arg).mono ?_
  rintro e w13 ⟨⟨vh0, rfl, rh0⟩, b13⟩
  replace rw0 := rw0.below b13
  replace rg0 := rg0.below b13
  replace o12 := o12.below b13
  have B13 := bstep B12 b13
  have s13 := b13.size
  rw [HR0.out, HM0.out] at rh0
  have th0 := rh0.lt
  go_wp2_with fail
  refine (eqSpans_yes _ _ M0 R0 _ rh0.arg rw0.arg (by omega)).mono ?_
  rintro e w14 ⟨rfl, b14⟩
  replace rw0 := rw0.below b14
  replace rg0 := rg0.below b14
  replace rh0 := rh0.below b14
  have B14 := bstep B13 b14
  have s14 := b14.size
  go_wp2_with fail
  refine (heldS_any _ M0 _ _ rg0.arg (by omega) (by omega) (by omega)).mono ?_
  rintro e w15 ⟨rfl, b15⟩
  replace rw0 := rw0.below b15
  replace rg0 := rg0.below b15
  replace rh0 := rh0.below b15
  have B15 := bstep B14 b15
  have s15 := b15.size
  go_wp2_with fail
  go_ret
  exact ⟨rfl, B15⟩
end Go.Proofs.Ytobmdefklgkoiaa
