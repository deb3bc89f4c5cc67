import Derived.Test.YtobmdefklgkoiaaSpPS5
import Derived.Test.YtobmdefklgkoiaaSpPI
import Derived.Test.YtobmdefklgkoiaaSpLen
import Derived.Test.YtobmdefklgkoiaaSpanMark
import Derived.Test.YtobmdefklgkoiaaSpHeld
import Derived.Deep.RegionHeld3
namespace Go.Proofs.Ytobmdefklgkoiaa
open Go.ChangeShapes Go.WideShapes Go.ChangeAt Go.RowKit
set_option linter.unusedSimpArgs false

set_option maxHeartbeats 2000000 in
theorem spansPutWalk (a0 : Option Addr) (n0 cap0 : Nat) (l0 : List Int) (x1 f t s m : Int) (w : World) (hv0 : ArgL w a0 n0 cap0 l0) :
    Calls Try.prog 6 #[.slice a0 n0 cap0, .int .i64 x1, .agg #[.int .i64 f, .int .i64 t, .int .i64 s, .int .i64 m]] w fun e w' => e = .returned (.bool true) ∧ Below w.heap.size w w' := by
  have HV0 : Hid (∀ w', Below w.heap.size w w' → ArgL w' a0 n0 cap0 l0) := fun w' b => hv0.below b
  by_cases hbig0 : 1048576 < n0
  · have hm0 : n0 ≤ maxLen := Nat.le_trans hv0.1 hv0.2.1
    go_enter Try.func6, Try.ntmps6
    go_wp2_with fail
    refine (szSpans_big a0 n0 cap0 _ hbig0 hm0).mono ?_
    rintro e w1 ⟨rfl, hw1⟩
    rw [hw1]
    clear hw1 w1
    go_wp2_with fail
    go_ret
    exact ⟨rfl, below_new _ _⟩
  have hl0 : n0 ≤ 1048576 := by omega
  have hi0 : (n0 : Int) ≤ 1048576 := by omega
  obtain ⟨R0, hR0⟩ : ∃ R, spR 0 (putS (fn l0) n0 x1 f t s m) = R := ⟨_, rfl⟩
  obtain ⟨M0, hM0⟩ : ∃ M, (spQ 0 (putS (fn l0) n0 x1 f t s m)).length = M := ⟨_, rfl⟩
  have hc0 : M0 ≤ 1048576 := by rw [← hM0]; exact put_len _ _ _ _ _ _ _
  have HR0 : Hid _ := hR0
  have HM0 : Hid _ := hM0
  clear hR0 hM0
  go_enter Try.func6, Try.ntmps6
  go_wp2_with fail
  refine (szSpans_any a0 n0 cap0 _ hl0).mono ?_
  rintro e w0 ⟨rfl, hw0⟩
  rw [hw0]
  clear hw0 w0
  obtain ⟨U, hU⟩ : ∃ U, w.alloc (.cells #[.int .i64 f, .int .i64 t, .int .i64 s, .int .i64 m] 43) = U := ⟨_, rfl⟩
  obtain ⟨G, hG⟩ : ∃ G, w.heap.size = G := ⟨_, rfl⟩
  have hGU : G < U.heap.size := by rw [← hU, ← hG]; simp
  have HBU : Hid (Below w.heap.size w U) := by rw [← hU]; exact below_new _ _
  have HBOX : Hid (∀ u, Below U.heap.size U u → u.cell? ⟨G, 0, none⟩ = some (.int .i64 f) ∧ u.cell? ⟨G, 1, none⟩ = some (.int .i64 t) ∧ u.cell? ⟨G, 2, none⟩ = some (.int .i64 s) ∧ u.cell? ⟨G, 3, none⟩ = some (.int .i64 m)) := fun u hu => by
    have e : ∀ j v, U.cell? ⟨G, j, none⟩ = some v → u.cell? ⟨G, j, none⟩ = some v := fun j v h => (hu.cell (p := ⟨G, j, none⟩) hGU).trans h
    rw [← hU, ← hG] at e
    rw [← hG]
    exact ⟨e 0 _ (by simp), e 1 _ (by simp), e 2 _ (by simp), e 3 _ (by simp)⟩
  have HV0' : Hid (∀ w', Below U.heap.size U w' → ArgL w' a0 n0 cap0 l0) := fun w' b => HV0.out w' (HBU.out.trans (b.mono HBU.out.size))
  clear HV0
  rw [hU, hG]
  obtain ⟨y0, y1, y2, y3⟩ := HBOX.out U (Below.refl _ _)
  clear hU hG hGU
  go_wp2_with fail
  go_region_held3 (fun w' => w'.cell? ⟨G, 0, none⟩ = some (.int .i64 f) ∧ w'.cell? ⟨G, 1, none⟩ = some (.int .i64 t) ∧ w'.cell? ⟨G, 2, none⟩ = some (.int .i64 s) ∧ w'.cell? ⟨G, 3, none⟩ = some (.int .i64 m)) (go_keep) (first
    | (go_at_call 18; refine (specPutS _ n0 l0 x1 f t s m _ (o1.below c1).arg hl0).mono ?_; rintro e w2 ⟨⟨vw0, rfl, rw0⟩, b2⟩; have B2 : Below U.heap.size U w2 := bstep BC b2; obtain ⟨k30, k31, k32, k33⟩ := HBOX.out w2 B2)
    | (go_at_call 25; refine (toSpan_any f t s m _).mono ?_; rintro e wc ⟨rfl, c1⟩; have BC : Below U.heap.size U wc := bstep B1 c1; obtain ⟨k20, k21, k22, k23⟩ := HBOX.out wc BC)
    | (go_at_call 24; refine (toSpans_any a0 n0 cap0 l0 U.drew (HV0'.out _ (Below.refl _ _).drew) hl0).mono ?_; rintro e w1 ⟨⟨g1, rfl, o1⟩, b1⟩; have B1 : Below U.heap.size U w1 := (Below.refl U.heap.size U).drew.trans b1; obtain ⟨k10, k11, k12, k13⟩ := HBOX.out w1 B1))
  have s1 := B1.size
  have sc := c1.size
  have s2 := b2.size
  have t1 := o1.lt g1 rfl
  rw [HR0.out, HM0.out] at rw0
  have tw0 := rw0.lt
  clear o1 y0 y1 y2 y3 k10 k11 k12 k13 k20 k21 k22 k23 k30 k31 k32 k33
  go_wp2_with fail
  refine (toSpans_any a0 n0 cap0 l0 _ (HV0'.out _ B2) hl0).mono ?_
  rintro e w3 ⟨⟨g3, rfl, o3⟩, b3⟩
  replace rw0 := rw0.below b3
  have B3 := bstep B2 b3
  have s3 := b3.size
  have t3 := o3.lt g3 rfl
  obtain ⟨y0, y1, y2, y3⟩ := HBOX.out _ B3
  go_wp2_with fail
  refine (toSpan_any f t s m _).mono ?_
  rintro e wd ⟨rfl, d3⟩
  replace rw0 := rw0.below d3
  replace o3 := o3.below d3
  have BD := bstep B3 d3
  have sd := d3.size
  clear y0 y1 y2 y3
  go_wp2_with fail
  refine (implPut _ n0 l0 x1 f t s m _ o3.arg).mono ?_
  rintro e w4 ⟨⟨vg0, rfl, rg0⟩, b4⟩
  replace rw0 := rw0.below b4
  replace o3 := o3.below b4
  have B4 := bstep BD b4
  have s4 := b4.size
  rw [HR0.out, HM0.out] at rg0
  have tg0 := rg0.lt
  go_wp2_with fail
  refine (eqSpans_yes _ _ M0 R0 _ rg0.arg rw0.arg (by omega)).mono ?_
  rintro e w5 ⟨rfl, b5⟩
  replace rw0 := rw0.below b5
  replace o3 := o3.below b5
  replace rg0 := rg0.below b5
  have B5 := bstep B4 b5
  have s5 := b5.size
  go_wp2_with fail
  refine (toSpans_any a0 n0 cap0 l0 _ (HV0'.out _ B5) hl0).mono ?_
  rintro e w6 ⟨⟨g6, rfl, o6⟩, b6⟩
  replace rw0 := rw0.below b6
  replace o3 := o3.below b6
  replace rg0 := rg0.below b6
  have B6 := bstep B5 b6
  have s6 := b6.size
  have t6 := o6.lt g6 rfl
  go_wp2_with fail
  refine (eqSpans_yes _ _ n0 l0 _ o3.arg o6.arg (by omega)).mono ?_
  rintro e w7 ⟨rfl, b7⟩
  replace rw0 := rw0.below b7
  replace o3 := o3.below b7
  replace rg0 := rg0.below b7
  replace o6 := o6.below b7
  have B7 := bstep B6 b7
  have s7 := b7.size
  go_wp2_with fail
  refine (markS_any _ n0 _ _ _ _ o3 (by omega) (by omega) (by omega)).mono ?_
  rintro e w8 ⟨rfl, n8, gr8, sz8⟩
  replace rw0 := rw0.aside gr8 (fun k hk hk2 => by have qhk := tw0 _ hk; have qhk2 := t3; have ehk2 : k = g3 := (by simp [Value.ownBlock] at hk2; omega); omega)
  replace rg0 := rg0.aside gr8 (fun k hk hk2 => by have qhk := tg0 _ hk; have qhk2 := t3; have ehk2 : k = g3 := (by simp [Value.ownBlock] at hk2; omega); omega)
  have B8 := B7.grown gr8 B7.size (fun k hk => by have qhk := t3; have ehk : k = g3 := (by simp [Value.ownBlock] at hk; omega); have q := B1.size; omega)
  have s8 : w7.heap.size ≤ w8.heap.size := by omega
  replace o3 := n8
  clear sz8
  go_wp2_with fail
  refine (eqSpans_yes _ _ M0 R0 _ rg0.arg rw0.arg (by omega)).mono ?_
  rintro e w9 ⟨rfl, b9⟩
  replace rw0 := rw0.below b9
  replace o3 := o3.below b9
  replace rg0 := rg0.below b9
  have B9 := bstep B8 b9
  have s9 := b9.size
  go_wp2_with fail
  refine (markS_any _ M0 _ _ _ _ rg0 (by omega) (by omega) (by omega)).mono ?_
  rintro e w10 ⟨rfl, n10, gr10, sz10⟩
  replace rw0 := rw0.aside gr10 (fun k hk hk2 => by have qhk := tw0 _ hk; have qhk2 := tg0 _ hk2; omega)
  have B10 := B9.grown gr10 B9.size (fun k hk => by have qhk := tg0 _ hk; have q := B1.size; omega)
  have s10 : w9.heap.size ≤ w10.heap.size := by omega
  replace rg0 := n10
  clear sz10
  go_wp2_with fail
  refine (heldS_any _ M0 _ _ rg0.arg (by omega) (by omega) (by omega)).mono ?_
  rintro e w11 ⟨rfl, b11⟩
  replace rw0 := rw0.below b11
  replace rg0 := rg0.below b11
  have B11 := bstep B10 b11
  have s11 := b11.size
  obtain ⟨y0, y1, y2, y3⟩ := HBOX.out _ B11
  go_wp2_with fail
  go_region_held3 (fun w' => w'.cell? ⟨G, 0, none⟩ = some (.int .i64 f) ∧ w'.cell? ⟨G, 1, none⟩ = some (.int .i64 t) ∧ w'.cell? ⟨G, 2, none⟩ = some (.int .i64 s) ∧ w'.cell? ⟨G, 3, none⟩ = some (.int .i64 m)) (go_keep) (first
    | (go_at_call 17; refine (implPut _ n0 l0 x1 f t s m _ (o12.below c12).arg).mono ?_; rintro e w13 ⟨⟨vh0, rfl, rh0⟩, b13⟩; have B13 : Below U.heap.size U w13 := bstep BC12 b13; obtain ⟨k60, k61, k62, k63⟩ := HBOX.out w13 B13)
    | (go_at_call 25; refine (toSpan_any f t s m _).mono ?_; rintro e wc12 ⟨rfl, c12⟩; have BC12 : Below U.heap.size U wc12 := bstep B12 c12; obtain ⟨k50, k51, k52, k53⟩ := HBOX.out wc12 BC12)
    | (go_at_call 24; refine (toSpans_any a0 n0 cap0 l0 w11.drew (HV0'.out _ B11.drew) hl0).mono ?_; rintro e w12 ⟨⟨g12, rfl, o12⟩, b12⟩; have b12' : Below w11.heap.size w11 w12 := (Below.refl w11.heap.size w11).drew.trans b12; have B12 : Below U.heap.size U w12 := bstep B11 b12'; obtain ⟨k40, k41, k42, k43⟩ := HBOX.out w12 B12))
  replace rw0 := ((rw0.below b12').below c12).below b13
  replace rg0 := ((rg0.below b12').below c12).below b13
  have s12 := b12'.size
  have sc12 := c12.size
  clear o12 y0 y1 y2 y3 k40 k41 k42 k43 k50 k51 k52 k53 k60 k61 k62 k63
  have s13 := b13.size
  rw [HR0.out, HM0.out] at rh0
  have th0 := rh0.lt
  go_wp2_with fail
  refine (eqSpans_yes _ _ M0 R0 _ rh0.arg rw0.arg (by omega)).mono ?_
  rintro e w14 ⟨rfl, b14⟩
  replace rw0 := rw0.below b14
  replace rg0 := rg0.below b14
  replace rh0 := rh0.below b14
  have B14 := bstep B13 b14
  have s14 := b14.size
  go_wp2_with fail
  refine (heldS_any _ M0 _ _ rg0.arg (by omega) (by omega) (by omega)).mono ?_
  rintro e w15 ⟨rfl, b15⟩
  replace rw0 := rw0.below b15
  replace rg0 := rg0.below b15
  replace rh0 := rh0.below b15
  have B15 := bstep B14 b15
  have s15 := b15.size
  go_wp2_with fail
  go_ret
  exact ⟨rfl, HBU.out.trans (B15.mono HBU.out.size)⟩
end Go.Proofs.Ytobmdefklgkoiaa
