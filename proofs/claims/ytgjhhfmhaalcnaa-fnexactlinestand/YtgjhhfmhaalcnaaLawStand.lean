import Derived.Test.YtgjhhfmhaalcnaaStandP
import Derived.Test.YtgjhhfmhaalcnaaLineMk
import Derived.Deep.RegionWith
import Derived.Deep.CutRange
namespace Go.Proofs.Ytgjhhfmhaalcnaa
open Go.ChangeShapes Go.WideShapes Go.ChangeAt Go.RowKit
set_option linter.unusedSimpArgs false

set_option maxRecDepth 10000 in
set_option maxHeartbeats 40000000 in
theorem standWalk (v0 : Value) (l0 : List Int) (a0 : Option Addr) (cap0 : Nat) (f t d : Int) (a : Option Addr) (n cap : Nat) (l : List Int) (x2 : Int) (x3 : Int) (x4 : Int) (w : World) (hva : v0 = .slice a0 l0.length cap0) (hv0 : Arg w v0 l0) (hv : ArgGL w a n cap l) :
    Calls Try.prog 7 #[v0, .agg #[.int .i64 f, .int .i64 t, .int .i64 d, .slice a n cap], .int .i64 x2, .int .i64 x3, .int .i64 x4] w fun e w' => e = .returned (.bool true) ∧ Below w.heap.size w w' := by
  subst hva
  have HV0 : Hid (∀ w', Below w.heap.size w w' → Arg w' (.slice a0 l0.length cap0) l0) := fun w' b => hv0.below b
  have HV1 : Hid (∀ w', Below w.heap.size w w' → ArgGL w' a n cap l) := fun w' b => hv.below b
  have hm : n ≤ maxLen := Nat.le_trans hv.1 hv.2.1
  clear hv hv0
  by_cases hbig0 : 1048576 < l0.length
  · have hb0 : (1048576 : Int) < (l0.length : Int) := by omega
    go_enter Try.func7, Try.ntmps7
    go_wp2_with fail
    go_ret
    exact ⟨rfl, below_new _ _⟩
  have hl0 : l0.length ≤ 1048576 := by omega
  have hi0 : (l0.length : Int) ≤ 1048576 := by omega
  by_cases hbig : 1048576 < n
  · go_enter Try.func7, Try.ntmps7
    go_wp2_with fail
    refine (szLine_big f t d a n cap _ hbig hm).mono ?_
    rintro e w1 ⟨rfl, b1⟩
    go_wp2_with fail
    go_ret
    exact ⟨rfl, bstep (below_new _ _) b1⟩
  have hl : n ≤ 1048576 := by omega
  have hi : (n : Int) ≤ 1048576 := by omega
  obtain ⟨F, T, D, N, Z, hIs, hNn⟩ := standIs_ex l0 f t d n l x2 x3 x4
  have HS : Hid (StandIs l0 f t d n l x2 x3 x4 F T D N Z) := hIs
  clear hIs
  go_enter Try.func7, Try.ntmps7
  go_wp2_with fail
  refine (szLine_any f t d a n cap _ hl).mono ?_
  rintro e w1 ⟨rfl, b1⟩
  have B1 := bstep (below_new w _) b1
  have H6 : Hid (LiesW w1 w.heap.size f t d (.slice a n cap)) := LiesW.below (liesW_new w f t d (.slice a n cap)) b1
  have s1 : w.heap.size + 1 ≤ w1.heap.size := by have := b1.size; simp at this; omega
  clear b1
  have i0 := LiesW.c0 H6.out
  have i1 := LiesW.c1 H6.out
  have i2 := LiesW.c2 H6.out
  have i3 := LiesW.c3 H6.out
  have hne1 : LiesW (w1.alloc (.cells #[.int .i64 0, .int .i64 0, .int .i64 0, .slice none 0 0] 25)) w.heap.size f t d (.slice a n cap) := LiesW.below (w := w1) H6.out (below_new _ _)
  have ii0 := hne1.c0
  have ii1 := hne1.c1
  have ii2 := hne1.c2
  have ii3 := hne1.c3
  go_upto_region 7 with fail
  go_cut [12] from 28 to 35 (fun sx wx => ∃ P vwa vwc, sx = .pointer (some ⟨P, 0, none⟩) ∧ Hid (Lies wx P F T D (.slice vwa N vwc)) ∧ Hid (OwnG wx w1.heap.size (.slice vwa N vwc) N Z) ∧ Hid (Below w1.heap.size w1 wx))
  case first =>
    go_region_with (first
      | (go_at_call 20; refine (toInt_any _ l0 _ (HV0.out _ (bstep B1 (by first | with_reducible exact (Below.refl _ w1).drew | with_reducible exact ((Below.refl _ w1).alloc (Nat.le_refl _) _).drew | exact (((Below.refl _ w1).drew).alloc (Nat.le_refl _) _)))) hl0).mono ?_; rintro e w2 ⟨⟨g2, rfl, oi⟩, b2⟩; have c2 : Below w1.heap.size w1 w2 := bstep (by first | with_reducible exact (Below.refl _ w1).drew | with_reducible exact ((Below.refl _ w1).alloc (Nat.le_refl _) _).drew | exact (((Below.refl _ w1).drew).alloc (Nat.le_refl _) _)) b2; have HH : LiesW w2 w.heap.size f t d (.slice a n cap) := LiesW.below (w := w1) H6.out c2; have z0 := HH.c0; have z1 := HH.c1; have z2 := HH.c2; have z3 := HH.c3; have HHz : LiesW (w2.alloc (.cells #[.int .i64 0, .int .i64 0, .int .i64 0, .slice none 0 0] 25)) w.heap.size f t d (.slice a n cap) := LiesW.below HH (below_new _ _); have zz0 := HHz.c0; have zz1 := HHz.c1; have zz2 := HHz.c2; have zz3 := HHz.c3; first | (have y : Lies w2 w1.heap.size 0 0 0 (.slice none 0 0) := (by with_reducible exact lies_drewn w1 b2)) | skip)
      | (go_at_call 21; refine (toLine_any f t d a n cap l _ (HV1.out _ (bstep B1 (by first | with_reducible exact c2 | exact bstep c2 (below_new _ _)))) hl).mono ?_; rintro e w3 ⟨⟨g3, rfl, og3⟩, b3⟩; have c3 : Below w2.heap.size w2 w3 := (by first | with_reducible exact b3 | exact bstep (below_new _ _) b3); first | (have y : Lies w3 w2.heap.size 0 0 0 (.slice none 0 0) := (by with_reducible exact lies_boxed w2 b3)) | (replace y := Lies.below y c3) | skip)
      | (go_at_call 19; refine (specStandP f t d _ n l _ l0 x2 x3 x4 _ (OwnG.arg (by first | with_reducible exact og3 | exact og3.below (below_new _ _))) (OwnI.arg (by first | with_reducible exact oi.below c3 | exact (oi.below c3).below (below_new _ _))) hl0 hl F T D N Z HS.out).mono ?_; rintro e w4 ⟨⟨vw, rfl, ow⟩, b4⟩; obtain ⟨vwa, vwc, rfl⟩ := OwnG.slc ow; have c4 : Below w3.heap.size w3 w4 := (by first | with_reducible exact b4 | exact bstep (below_new _ _) b4); have ow' : OwnG w4 w3.heap.size (.slice vwa N vwc) N Z := OwnG.mono ow (by first | exact Nat.le_refl _ | simp); first | (have y : Lies w4 w3.heap.size 0 0 0 (.slice none 0 0) := (by with_reducible exact lies_boxed w3 b4); have yl : ∀ k, (Value.slice vwa N vwc).ownBlock = some k → k ≠ w3.heap.size := (fun k hk => by have := (ow.lt k hk).1; simp at this; omega); have y0 := y.c0; have y1 := y.c1; have y2 := y.c2; have y3 := y.c3; have v0 := y.fz 0; have v1 := y.fz 1; have v2 := y.fz 2; have v3 := y.fz 3) | (have yl := fun (k : Nat) (hk : (Value.slice vwa N vwc).ownBlock = some k) => (show k ≠ _ from fun e => absurd (Nat.lt_of_lt_of_le y.lt (ow'.lt k hk).1) (by rw [e]; exact Nat.lt_irrefl _)); replace y := Lies.below y c4; have y0 := y.c0; have y1 := y.c1; have y2 := y.c2; have y3 := y.c3; have v0 := y.fz 0; have v1 := y.fz 1; have v2 := y.fz 2; have v3 := y.fz 3) | skip))
    all_goals
      go_wp2_with fail
      go_meet
      have c14 : Below w1.heap.size w1 w4 := bstep (bstep c2 c3) c4
      have sz2 := c2.size
      have sz3 := c3.size
      first | exact ⟨_, vwa, vwc, rfl, Lies.four y, OwnG.mono (OwnG.kept ow' (fun k hk => by rw [heap_setCell_other _ _ _ _ (yl k hk), heap_setCell_other _ _ _ _ (yl k hk), heap_setCell_other _ _ _ _ (yl k hk), heap_setCell_other _ _ _ _ (yl k hk)])) (by omega), (((c14.setCell (by dsimp only; omega) _).setCell (by dsimp only; omega) _).setCell (by dsimp only; omega) _).setCell (by dsimp only; omega) _⟩ | exact ⟨_, vwa, vwc, rfl, lies_new w4 F T D (.slice vwa N vwc), (OwnG.mono ow' (by omega)).below (below_new _ _), bstep c14 (below_new _ _)⟩
  case rest =>
    obtain ⟨P12, vwa, vwc, rfl, HBP12, HOP12, HCP12⟩ := hcut
    clear i0 i1 i2 i3 ii0 ii1 ii2 ii3 hne1
    obtain ⟨w5, hw5⟩ : ∃ W, wc = W := ⟨_, rfl⟩
    rw [hw5] at HBP12 HOP12 HCP12 ⊢
    clear hw5
    have H12 : Hid (Lies w5 P12 F T D (.slice vwa N vwc)) := HBP12
    have HOW : Hid (OwnG w5 w1.heap.size (.slice vwa N vwc) N Z) := HOP12
    have TW : Hid (∀ k, (Value.slice vwa N vwc).ownBlock = some k → k < w5.heap.size) := fun k hk => (OwnG.lt HOP12.out k hk).2
    have p12 := Lies.lt HBP12.out
    have b15 := HCP12.out
    clear HBP12 HOP12 HCP12
    replace H6 : Hid (LiesW w5 w.heap.size f t d (.slice a n cap)) := LiesW.below (w := w1) H6.out b15
    have B5 := bstep B1 b15
    have s5 := b15.size
    clear b15
    go_wp2_with fail
    refine (toInt_any _ l0 _ (HV0.out _ B5) hl0).mono ?_
    rintro e w6 ⟨⟨g6, rfl, o6⟩, b6⟩
    replace H6 : Hid (LiesW w6 w.heap.size f t d (.slice a n cap)) := LiesW.below (w := w5) H6.out b6
    replace HOW : Hid (OwnG w6 w1.heap.size (.slice vwa N vwc) N Z) := OwnG.below (w := w5) HOW.out b6
    replace H12 : Hid (Lies w6 P12 F T D (.slice vwa N vwc)) := Lies.below (w := w5) H12.out b6
    have B6 := bstep B5 b6
    have s6 := b6.size
    have t6 := o6.lt g6 rfl
    have HX0 : Hid (OwnI w6 w5.heap.size (.slice (some ⟨g6, 0, none⟩) l0.length l0.length) l0) := o6
    clear o6
    have i0 := LiesW.c0 H6.out
    have i1 := LiesW.c1 H6.out
    have i2 := LiesW.c2 H6.out
    have i3 := LiesW.c3 H6.out
    go_wp2_with fail
    clear i0 i1 i2 i3
    refine (toLine_any f t d a n cap l _ (HV1.out _ B6) hl).mono ?_
    rintro e w7 ⟨⟨g7, rfl, o7⟩, b7⟩
    replace H6 : Hid (LiesW w7 w.heap.size f t d (.slice a n cap)) := LiesW.below (w := w6) H6.out b7
    replace HOW : Hid (OwnG w7 w1.heap.size (.slice vwa N vwc) N Z) := OwnG.below (w := w6) HOW.out b7
    replace H12 : Hid (Lies w7 P12 F T D (.slice vwa N vwc)) := Lies.below (w := w6) H12.out b7
    replace HX0 : Hid (OwnI w7 w5.heap.size (.slice (some ⟨g6, 0, none⟩) l0.length l0.length) l0) := OwnI.below (w := w6) HX0.out b7
    have B7 := bstep B6 b7
    have s7 := b7.size
    have t7 := o7.lt g7 rfl
    have HX1 : Hid (OwnG w7 w6.heap.size (.slice (some ⟨g7, 0, none⟩) n n) n l) := o7
    clear o7
    go_wp2_with fail
    have h8 := lies_new w7 f t d (.slice (some ⟨g7, 0, none⟩) n n)
    obtain ⟨w8, hw8⟩ : ∃ W, w7.alloc (.cells #[.int .i64 f, .int .i64 t, .int .i64 d, .slice (some ⟨g7, 0, none⟩) n n] 25) = W := ⟨_, rfl⟩
    rw [hw8]
    have bb8 : Below w7.heap.size w7 w8 := by rw [← hw8]; exact below_new _ _
    have ss8 : w8.heap.size = w7.heap.size + 1 := by rw [← hw8]; exact size_new _ _
    rw [hw8] at h8
    have H14 : Hid (Lies w8 w7.heap.size f t d (.slice (some ⟨g7, 0, none⟩) n n)) := h8
    clear h8 hw8
    replace H6 : Hid (LiesW w8 w.heap.size f t d (.slice a n cap)) := LiesW.below (w := w7) H6.out bb8
    replace HOW : Hid (OwnG w8 w1.heap.size (.slice vwa N vwc) N Z) := OwnG.below (w := w7) HOW.out bb8
    replace H12 : Hid (Lies w8 P12 F T D (.slice vwa N vwc)) := Lies.below (w := w7) H12.out bb8
    replace HX0 : Hid (OwnI w8 w5.heap.size (.slice (some ⟨g6, 0, none⟩) l0.length l0.length) l0) := OwnI.below (w := w7) HX0.out bb8
    replace HX1 : Hid (OwnG w8 w6.heap.size (.slice (some ⟨g7, 0, none⟩) n n) n l) := OwnG.below (w := w7) HX1.out bb8
    have B8 := bstep B7 bb8
    have s8 := bb8.size
    refine (implStandP f t d _ n l _ l0 x2 x3 x4 _ (OwnG.arg HX1.out) (OwnI.arg HX0.out) hl0 hl F T D N Z HS.out).mono ?_
    rintro e w9 ⟨⟨vg, rfl, og⟩, b9⟩
    obtain ⟨vga, vgc, rfl⟩ := OwnG.slc og
    replace H6 : Hid (LiesW w9 w.heap.size f t d (.slice a n cap)) := LiesW.below (w := w8) H6.out b9
    replace HOW : Hid (OwnG w9 w1.heap.size (.slice vwa N vwc) N Z) := OwnG.below (w := w8) HOW.out b9
    replace H12 : Hid (Lies w9 P12 F T D (.slice vwa N vwc)) := Lies.below (w := w8) H12.out b9
    replace HX0 : Hid (OwnI w9 w5.heap.size (.slice (some ⟨g6, 0, none⟩) l0.length l0.length) l0) := OwnI.below (w := w8) HX0.out b9
    replace HX1 : Hid (OwnG w9 w6.heap.size (.slice (some ⟨g7, 0, none⟩) n n) n l) := OwnG.below (w := w8) HX1.out b9
    replace H14 : Hid (Lies w9 w7.heap.size f t d (.slice (some ⟨g7, 0, none⟩) n n)) := Lies.below (w := w8) H14.out b9
    have B9 := bstep B8 b9
    have s9 := b9.size
    have TG : Hid (∀ k, (Value.slice vga N vgc).ownBlock = some k → w8.heap.size ≤ k ∧ k < w9.heap.size) := fun k hk => og.lt k hk
    have HOG : Hid (OwnG w9 w8.heap.size (.slice vga N vgc) N Z) := og
    clear og
    have h12b := Lies.below (w := w9) H12.out (below_new w9 (.cells #[.int .i64 F, .int .i64 T, .int .i64 D, .slice vga N vgc] 25))
    have i0 := h12b.c0
    have i1 := h12b.c1
    have i2 := h12b.c2
    have i3 := h12b.c3
    clear h12b
    go_wp2_with fail
    clear i0 i1 i2 i3
    have h10 := lies_new w9 F T D (.slice vga N vgc)
    obtain ⟨w10, hw10⟩ : ∃ W, w9.alloc (.cells #[.int .i64 F, .int .i64 T, .int .i64 D, .slice vga N vgc] 25) = W := ⟨_, rfl⟩
    rw [hw10]
    have bb10 : Below w9.heap.size w9 w10 := by rw [← hw10]; exact below_new _ _
    have ss10 : w10.heap.size = w9.heap.size + 1 := by rw [← hw10]; exact size_new _ _
    rw [hw10] at h10
    have H15 : Hid (Lies w10 w9.heap.size F T D (.slice vga N vgc)) := h10
    clear h10 hw10
    replace H6 : Hid (LiesW w10 w.heap.size f t d (.slice a n cap)) := LiesW.below (w := w9) H6.out bb10
    replace HOW : Hid (OwnG w10 w1.heap.size (.slice vwa N vwc) N Z) := OwnG.below (w := w9) HOW.out bb10
    replace H12 : Hid (Lies w10 P12 F T D (.slice vwa N vwc)) := Lies.below (w := w9) H12.out bb10
    replace HX0 : Hid (OwnI w10 w5.heap.size (.slice (some ⟨g6, 0, none⟩) l0.length l0.length) l0) := OwnI.below (w := w9) HX0.out bb10
    replace HX1 : Hid (OwnG w10 w6.heap.size (.slice (some ⟨g7, 0, none⟩) n n) n l) := OwnG.below (w := w9) HX1.out bb10
    replace H14 : Hid (Lies w10 w7.heap.size f t d (.slice (some ⟨g7, 0, none⟩) n n)) := Lies.below (w := w9) H14.out bb10
    replace HOG : Hid (OwnG w10 w8.heap.size (.slice vga N vgc) N Z) := OwnG.below (w := w9) HOG.out bb10
    have B10 := bstep B9 bb10
    have s10 := bb10.size
    refine (eqLine_yes F T D _ _ N Z _ (OwnG.arg HOG.out) (OwnG.arg HOW.out) (by omega)).mono ?_
    rintro e w11 ⟨rfl, b11⟩
    replace H6 : Hid (LiesW w11 w.heap.size f t d (.slice a n cap)) := LiesW.below (w := w10) H6.out b11
    replace HOW : Hid (OwnG w11 w1.heap.size (.slice vwa N vwc) N Z) := OwnG.below (w := w10) HOW.out b11
    replace H12 : Hid (Lies w11 P12 F T D (.slice vwa N vwc)) := Lies.below (w := w10) H12.out b11
    replace HX0 : Hid (OwnI w11 w5.heap.size (.slice (some ⟨g6, 0, none⟩) l0.length l0.length) l0) := OwnI.below (w := w10) HX0.out b11
    replace HX1 : Hid (OwnG w11 w6.heap.size (.slice (some ⟨g7, 0, none⟩) n n) n l) := OwnG.below (w := w10) HX1.out b11
    replace H14 : Hid (Lies w11 w7.heap.size f t d (.slice (some ⟨g7, 0, none⟩) n n)) := Lies.below (w := w10) H14.out b11
    replace HOG : Hid (OwnG w11 w8.heap.size (.slice vga N vgc) N Z) := OwnG.below (w := w10) HOG.out b11
    replace H15 : Hid (Lies w11 w9.heap.size F T D (.slice vga N vgc)) := Lies.below (w := w10) H15.out b11
    have B11 := bstep B10 b11
    have s11 := b11.size
    go_wp2_with fail
    refine (toInt_any _ l0 _ (HV0.out _ B11) hl0).mono ?_
    rintro e w12 ⟨⟨g12, rfl, o12⟩, b12⟩
    replace H6 : Hid (LiesW w12 w.heap.size f t d (.slice a n cap)) := LiesW.below (w := w11) H6.out b12
    replace HOW : Hid (OwnG w12 w1.heap.size (.slice vwa N vwc) N Z) := OwnG.below (w := w11) HOW.out b12
    replace H12 : Hid (Lies w12 P12 F T D (.slice vwa N vwc)) := Lies.below (w := w11) H12.out b12
    replace HX0 : Hid (OwnI w12 w5.heap.size (.slice (some ⟨g6, 0, none⟩) l0.length l0.length) l0) := OwnI.below (w := w11) HX0.out b12
    replace HX1 : Hid (OwnG w12 w6.heap.size (.slice (some ⟨g7, 0, none⟩) n n) n l) := OwnG.below (w := w11) HX1.out b12
    replace H14 : Hid (Lies w12 w7.heap.size f t d (.slice (some ⟨g7, 0, none⟩) n n)) := Lies.below (w := w11) H14.out b12
    replace HOG : Hid (OwnG w12 w8.heap.size (.slice vga N vgc) N Z) := OwnG.below (w := w11) HOG.out b12
    replace H15 : Hid (Lies w12 w9.heap.size F T D (.slice vga N vgc)) := Lies.below (w := w11) H15.out b12
    have B12 := bstep B11 b12
    have s12 := b12.size
    go_wp2_with fail
    refine (eqI2_yes _ _ l0 _ (OwnI.arg HX0.out) (OwnI.arg o12) (by omega)).mono ?_
    rintro e w13 ⟨rfl, b13⟩
    clear o12
    replace H6 : Hid (LiesW w13 w.heap.size f t d (.slice a n cap)) := LiesW.below (w := w12) H6.out b13
    replace HOW : Hid (OwnG w13 w1.heap.size (.slice vwa N vwc) N Z) := OwnG.below (w := w12) HOW.out b13
    replace H12 : Hid (Lies w13 P12 F T D (.slice vwa N vwc)) := Lies.below (w := w12) H12.out b13
    replace HX0 : Hid (OwnI w13 w5.heap.size (.slice (some ⟨g6, 0, none⟩) l0.length l0.length) l0) := OwnI.below (w := w12) HX0.out b13
    replace HX1 : Hid (OwnG w13 w6.heap.size (.slice (some ⟨g7, 0, none⟩) n n) n l) := OwnG.below (w := w12) HX1.out b13
    replace H14 : Hid (Lies w13 w7.heap.size f t d (.slice (some ⟨g7, 0, none⟩) n n)) := Lies.below (w := w12) H14.out b13
    replace HOG : Hid (OwnG w13 w8.heap.size (.slice vga N vgc) N Z) := OwnG.below (w := w12) HOG.out b13
    replace H15 : Hid (Lies w13 w9.heap.size F T D (.slice vga N vgc)) := Lies.below (w := w12) H15.out b13
    have B13 := bstep B12 b13
    have s13 := b13.size
    have i0 := Lies.c0 H14.out
    have i1 := Lies.c1 H14.out
    have i2 := Lies.c2 H14.out
    have i3 := Lies.c3 H14.out
    have j0 := LiesW.c0 H6.out
    have j1 := LiesW.c1 H6.out
    have j2 := LiesW.c2 H6.out
    have j3 := LiesW.c3 H6.out
    go_wp2_with fail
    go_region_with (first | (go_at_call 21; refine (toLine_any f t d a n cap l _ (HV1.out _ (bstep B13 (below_draws w13 1))) hl).mono ?_; rintro e w14 ⟨⟨g14, rfl, o14⟩, b14⟩; have BB14 : Below w13.heap.size w13 w14 := bstep (below_draws w13 1) b14; have HH14 : Lies w14 w7.heap.size f t d (.slice (some ⟨g7, 0, none⟩) n n) := Lies.below (w := w13) H14.out BB14; have z0 := HH14.c0; have z1 := HH14.c1; have z2 := HH14.c2; have z3 := HH14.c3) | (go_at_call 23; refine (eqLine_yes f t d _ _ n l _ (OwnG.arg (OwnG.below (w := w13) HX1.out BB14)) (OwnG.arg o14) (by omega)).mono ?_; rintro e w15 ⟨rfl, b15⟩))
    all_goals
      have b1315 : Below w13.heap.size w13 w15 := bstep BB14 b15
      clear o14 HH14 z0 z1 z2 z3 i0 i1 i2 i3 j0 j1 j2 j3
      replace H6 : Hid (LiesW w15 w.heap.size f t d (.slice a n cap)) := LiesW.below (w := w13) H6.out b1315
      replace HOW : Hid (OwnG w15 w1.heap.size (.slice vwa N vwc) N Z) := OwnG.below (w := w13) HOW.out b1315
      replace H12 : Hid (Lies w15 P12 F T D (.slice vwa N vwc)) := Lies.below (w := w13) H12.out b1315
      replace HX0 : Hid (OwnI w15 w5.heap.size (.slice (some ⟨g6, 0, none⟩) l0.length l0.length) l0) := OwnI.below (w := w13) HX0.out b1315
      replace HX1 : Hid (OwnG w15 w6.heap.size (.slice (some ⟨g7, 0, none⟩) n n) n l) := OwnG.below (w := w13) HX1.out b1315
      replace H14 : Hid (Lies w15 w7.heap.size f t d (.slice (some ⟨g7, 0, none⟩) n n)) := Lies.below (w := w13) H14.out b1315
      replace HOG : Hid (OwnG w15 w8.heap.size (.slice vga N vgc) N Z) := OwnG.below (w := w13) HOG.out b1315
      replace H15 : Hid (Lies w15 w9.heap.size F T D (.slice vga N vgc)) := Lies.below (w := w13) H15.out b1315
      have B15 := bstep B13 b1315
      have s15 := b1315.size
      clear b1315 BB14 b14 b15
      go_wp2_with fail
      refine (mark_any _ l0 _ 1 _ HX0.out hl0 (by omega) (by omega)).mono ?_
      rintro e w16 ⟨rfl, n16, gr16, sz16⟩
      clear sz16
      replace H6 : Hid (LiesW w16 w.heap.size f t d (.slice a n cap)) := LiesW.grown (w := w15) H6.out gr16 (fun hk => by simp [Value.ownBlock] at hk; omega)
      replace HOW : Hid (OwnG w16 w1.heap.size (.slice vwa N vwc) N Z) := OwnG.kept (w := w15) HOW.out (fun k2 hk2 => gr16.block k2 (OwnG.lt HOW.out k2 hk2).2 (fun hk => by simp [Value.ownBlock] at hk; have q9 := TW.out k2 hk2; omega))
      replace H12 : Hid (Lies w16 P12 F T D (.slice vwa N vwc)) := Lies.grown (w := w15) H12.out gr16 (fun hk => by simp [Value.ownBlock] at hk; omega)
      replace HX1 : Hid (OwnG w16 w6.heap.size (.slice (some ⟨g7, 0, none⟩) n n) n l) := OwnG.kept (w := w15) HX1.out (fun k2 hk2 => gr16.block k2 (OwnG.lt HX1.out k2 hk2).2 (fun hk => by simp [Value.ownBlock] at hk; have q9 : k2 = g7 := (by simp [Value.ownBlock] at hk2; omega); omega))
      replace H14 : Hid (Lies w16 w7.heap.size f t d (.slice (some ⟨g7, 0, none⟩) n n)) := Lies.grown (w := w15) H14.out gr16 (fun hk => by simp [Value.ownBlock] at hk; omega)
      replace HOG : Hid (OwnG w16 w8.heap.size (.slice vga N vgc) N Z) := OwnG.kept (w := w15) HOG.out (fun k2 hk2 => gr16.block k2 (OwnG.lt HOG.out k2 hk2).2 (fun hk => by simp [Value.ownBlock] at hk; have q9 := TG.out k2 hk2; omega))
      replace H15 : Hid (Lies w16 w9.heap.size F T D (.slice vga N vgc)) := Lies.grown (w := w15) H15.out gr16 (fun hk => by simp [Value.ownBlock] at hk; omega)
      have B16 := B15.grown gr16 B15.size (fun k hk => by simp [Value.ownBlock] at hk; omega)
      have s16 := gr16.size
      clear n16 HX0
      have i0 := Lies.c0 H14.out
      have i1 := Lies.c1 H14.out
      have i2 := Lies.c2 H14.out
      have i3 := Lies.c3 H14.out
      go_wp2_with fail
      clear i0 i1 i2 i3
      refine (markLine_any f t d _ n l _ _ _ HX1.out hl (by omega) (by omega)).mono ?_
      rintro e w17 ⟨rfl, n17, gr17⟩
      replace H6 : Hid (LiesW w17 w.heap.size f t d (.slice a n cap)) := LiesW.grown (w := w16) H6.out gr17 (fun hk => by simp [Value.ownBlock] at hk; omega)
      replace HOW : Hid (OwnG w17 w1.heap.size (.slice vwa N vwc) N Z) := OwnG.kept (w := w16) HOW.out (fun k2 hk2 => gr17.block k2 (OwnG.lt HOW.out k2 hk2).2 (fun hk => by simp [Value.ownBlock] at hk; have q9 := TW.out k2 hk2; omega))
      replace H12 : Hid (Lies w17 P12 F T D (.slice vwa N vwc)) := Lies.grown (w := w16) H12.out gr17 (fun hk => by simp [Value.ownBlock] at hk; omega)
      replace H14 : Hid (Lies w17 w7.heap.size f t d (.slice (some ⟨g7, 0, none⟩) n n)) := Lies.grown (w := w16) H14.out gr17 (fun hk => by simp [Value.ownBlock] at hk; omega)
      replace HOG : Hid (OwnG w17 w8.heap.size (.slice vga N vgc) N Z) := OwnG.kept (w := w16) HOG.out (fun k2 hk2 => gr17.block k2 (OwnG.lt HOG.out k2 hk2).2 (fun hk => by simp [Value.ownBlock] at hk; have q9 := TG.out k2 hk2; omega))
      replace H15 : Hid (Lies w17 w9.heap.size F T D (.slice vga N vgc)) := Lies.grown (w := w16) H15.out gr17 (fun hk => by simp [Value.ownBlock] at hk; omega)
      have B17 := B16.grown gr17 B16.size (fun k hk => by simp [Value.ownBlock] at hk; omega)
      have s17 := gr17.size
      clear n17 HX1 H14
      have i0 := Lies.c0 H15.out
      have i1 := Lies.c1 H15.out
      have i2 := Lies.c2 H15.out
      have i3 := Lies.c3 H15.out
      have j0 := Lies.c0 H12.out
      have j1 := Lies.c1 H12.out
      have j2 := Lies.c2 H12.out
      have j3 := Lies.c3 H12.out
      go_wp2_with fail
      clear i0 i1 i2 i3 j0 j1 j2 j3
      refine (eqLine_yes F T D _ _ N Z _ (OwnG.arg HOG.out) (OwnG.arg HOW.out) (by omega)).mono ?_
      rintro e w18 ⟨rfl, b18⟩
      replace H6 : Hid (LiesW w18 w.heap.size f t d (.slice a n cap)) := LiesW.below (w := w17) H6.out b18
      replace HOW : Hid (OwnG w18 w1.heap.size (.slice vwa N vwc) N Z) := OwnG.below (w := w17) HOW.out b18
      replace H12 : Hid (Lies w18 P12 F T D (.slice vwa N vwc)) := Lies.below (w := w17) H12.out b18
      replace HOG : Hid (OwnG w18 w8.heap.size (.slice vga N vgc) N Z) := OwnG.below (w := w17) HOG.out b18
      replace H15 : Hid (Lies w18 w9.heap.size F T D (.slice vga N vgc)) := Lies.below (w := w17) H15.out b18
      have B18 := bstep B17 b18
      have s18 := b18.size
      have i0 := Lies.c0 H15.out
      have i1 := Lies.c1 H15.out
      have i2 := Lies.c2 H15.out
      have i3 := Lies.c3 H15.out
      go_wp2_with fail
      clear i0 i1 i2 i3
      refine (markLine_any F T D _ N Z _ 1 _ HOG.out (by omega) (by omega) (by omega)).mono ?_
      rintro e w19 ⟨rfl, n19, gr19⟩
      replace H6 : Hid (LiesW w19 w.heap.size f t d (.slice a n cap)) := LiesW.grown (w := w18) H6.out gr19 (fun hk => by have q8 := TG.out _ hk; omega)
      replace HOW : Hid (OwnG w19 w1.heap.size (.slice vwa N vwc) N Z) := OwnG.kept (w := w18) HOW.out (fun k2 hk2 => gr19.block k2 (OwnG.lt HOW.out k2 hk2).2 (fun hk => by have q8 := TG.out _ hk.symm; have q9 := TW.out k2 hk2; omega))
      replace H12 : Hid (Lies w19 P12 F T D (.slice vwa N vwc)) := Lies.grown (w := w18) H12.out gr19 (fun hk => by have q8 := TG.out _ hk; omega)
      replace H15 : Hid (Lies w19 w9.heap.size F T D (.slice vga N vgc)) := Lies.grown (w := w18) H15.out gr19 (fun hk => by have q8 := TG.out _ hk; omega)
      have B19 := B18.grown gr19 B18.size (fun k hk => by have q8 := TG.out _ hk; omega)
      have s19 := gr19.size
      replace HOG : Hid (OwnG w19 w8.heap.size (.slice vga N vgc) N (marks 1 (N * 5))) := n19
      clear n19
      have i0 := Lies.c0 H15.out
      have i1 := Lies.c1 H15.out
      have i2 := Lies.c2 H15.out
      have i3 := Lies.c3 H15.out
      go_wp2_with fail
      clear i0 i1 i2 i3
      refine (heldLine_any F T D _ N 1 _ (OwnG.arg HOG.out) (by omega) (by omega) (by omega)).mono ?_
      rintro e w20 ⟨rfl, b20⟩
      replace H6 : Hid (LiesW w20 w.heap.size f t d (.slice a n cap)) := LiesW.below (w := w19) H6.out b20
      replace HOW : Hid (OwnG w20 w1.heap.size (.slice vwa N vwc) N Z) := OwnG.below (w := w19) HOW.out b20
      replace H12 : Hid (Lies w20 P12 F T D (.slice vwa N vwc)) := Lies.below (w := w19) H12.out b20
      replace HOG : Hid (OwnG w20 w8.heap.size (.slice vga N vgc) N (marks 1 (N * 5))) := OwnG.below (w := w19) HOG.out b20
      replace H15 : Hid (Lies w20 w9.heap.size F T D (.slice vga N vgc)) := Lies.below (w := w19) H15.out b20
      have B20 := bstep B19 b20
      have s20 := b20.size
      have i0 := LiesW.c0 H6.out
      have i1 := LiesW.c1 H6.out
      have i2 := LiesW.c2 H6.out
      have i3 := LiesW.c3 H6.out
      have hne1 : LiesW (w20.alloc (.cells #[.int .i64 0, .int .i64 0, .int .i64 0, .slice none 0 0] 25)) w.heap.size f t d (.slice a n cap) := LiesW.below (w := w20) H6.out (below_new _ _)
      have ii0 := hne1.c0
      have ii1 := hne1.c1
      have ii2 := hne1.c2
      have ii3 := hne1.c3
      go_upto_region 30 with fail
      go_cut [19] from 85 to 92 (fun sx wx => ∃ P vwa vwc, sx = .pointer (some ⟨P, 0, none⟩) ∧ Hid (Lies wx P F T D (.slice vwa N vwc)) ∧ Hid (OwnG wx w20.heap.size (.slice vwa N vwc) N Z) ∧ Hid (Below w20.heap.size w20 wx))
      case first =>
        go_region_with (first
          | (go_at_call 20; refine (toInt_any _ l0 _ (HV0.out _ (bstep B20 (by first | with_reducible exact (Below.refl _ w20).drew | with_reducible exact ((Below.refl _ w20).alloc (Nat.le_refl _) _).drew | exact (((Below.refl _ w20).drew).alloc (Nat.le_refl _) _)))) hl0).mono ?_; rintro e w21 ⟨⟨g2, rfl, oi⟩, b2⟩; have c2 : Below w20.heap.size w20 w21 := bstep (by first | with_reducible exact (Below.refl _ w20).drew | with_reducible exact ((Below.refl _ w20).alloc (Nat.le_refl _) _).drew | exact (((Below.refl _ w20).drew).alloc (Nat.le_refl _) _)) b2; have HH : LiesW w21 w.heap.size f t d (.slice a n cap) := LiesW.below (w := w20) H6.out c2; have z0 := HH.c0; have z1 := HH.c1; have z2 := HH.c2; have z3 := HH.c3; have HHz : LiesW (w21.alloc (.cells #[.int .i64 0, .int .i64 0, .int .i64 0, .slice none 0 0] 25)) w.heap.size f t d (.slice a n cap) := LiesW.below HH (below_new _ _); have zz0 := HHz.c0; have zz1 := HHz.c1; have zz2 := HHz.c2; have zz3 := HHz.c3; first | (have y : Lies w21 w20.heap.size 0 0 0 (.slice none 0 0) := (by with_reducible exact lies_drewn w20 b2)) | skip)
          | (go_at_call 21; refine (toLine_any f t d a n cap l _ (HV1.out _ (bstep B20 (by first | with_reducible exact c2 | exact bstep c2 (below_new _ _)))) hl).mono ?_; rintro e w22 ⟨⟨g3, rfl, og3⟩, b3⟩; have c3 : Below w21.heap.size w21 w22 := (by first | with_reducible exact b3 | exact bstep (below_new _ _) b3); first | (have y : Lies w22 w21.heap.size 0 0 0 (.slice none 0 0) := (by with_reducible exact lies_boxed w21 b3)) | (replace y := Lies.below y c3) | skip)
          | (go_at_call 22; refine (implStandP f t d _ n l _ l0 x2 x3 x4 _ (OwnG.arg (by first | with_reducible exact og3 | exact og3.below (below_new _ _))) (OwnI.arg (by first | with_reducible exact oi.below c3 | exact (oi.below c3).below (below_new _ _))) hl0 hl F T D N Z HS.out).mono ?_; rintro e w23 ⟨⟨vw, rfl, ow⟩, b4⟩; obtain ⟨vwa, vwc, rfl⟩ := OwnG.slc ow; have c4 : Below w22.heap.size w22 w23 := (by first | with_reducible exact b4 | exact bstep (below_new _ _) b4); have ow' : OwnG w23 w22.heap.size (.slice vwa N vwc) N Z := OwnG.mono ow (by first | exact Nat.le_refl _ | simp); first | (have y : Lies w23 w22.heap.size 0 0 0 (.slice none 0 0) := (by with_reducible exact lies_boxed w22 b4); have yl : ∀ k, (Value.slice vwa N vwc).ownBlock = some k → k ≠ w22.heap.size := (fun k hk => by have := (ow.lt k hk).1; simp at this; omega); have y0 := y.c0; have y1 := y.c1; have y2 := y.c2; have y3 := y.c3; have v0 := y.fz 0; have v1 := y.fz 1; have v2 := y.fz 2; have v3 := y.fz 3) | (have yl := fun (k : Nat) (hk : (Value.slice vwa N vwc).ownBlock = some k) => (show k ≠ _ from fun e => absurd (Nat.lt_of_lt_of_le y.lt (ow'.lt k hk).1) (by rw [e]; exact Nat.lt_irrefl _)); replace y := Lies.below y c4; have y0 := y.c0; have y1 := y.c1; have y2 := y.c2; have y3 := y.c3; have v0 := y.fz 0; have v1 := y.fz 1; have v2 := y.fz 2; have v3 := y.fz 3) | skip))
        all_goals
          go_wp2_with fail
          go_meet
          have c14 : Below w20.heap.size w20 w23 := bstep (bstep c2 c3) c4
          have sz2 := c2.size
          have sz3 := c3.size
          first | exact ⟨_, vwa, vwc, rfl, Lies.four y, OwnG.mono (OwnG.kept ow' (fun k hk => by rw [heap_setCell_other _ _ _ _ (yl k hk), heap_setCell_other _ _ _ _ (yl k hk), heap_setCell_other _ _ _ _ (yl k hk), heap_setCell_other _ _ _ _ (yl k hk)])) (by omega), (((c14.setCell (by dsimp only; omega) _).setCell (by dsimp only; omega) _).setCell (by dsimp only; omega) _).setCell (by dsimp only; omega) _⟩ | exact ⟨_, vwa, vwc, rfl, lies_new w23 F T D (.slice vwa N vwc), (OwnG.mono ow' (by omega)).below (below_new _ _), bstep c14 (below_new _ _)⟩
      case rest =>
        obtain ⟨P19, vha, vhc, rfl, HBP19, HOP19, HCP19⟩ := hcut
        clear i0 i1 i2 i3 ii0 ii1 ii2 ii3 hne1
        obtain ⟨w24, hw24⟩ : ∃ W, wc = W := ⟨_, rfl⟩
        rw [hw24] at HBP19 HOP19 HCP19 ⊢
        clear hw24
        have H19 : Hid (Lies w24 P19 F T D (.slice vha N vhc)) := HBP19
        have HOH : Hid (OwnG w24 w20.heap.size (.slice vha N vhc) N Z) := HOP19
        have b2024 := HCP19.out
        clear HBP19 HOP19 HCP19
        replace H6 : Hid (LiesW w24 w.heap.size f t d (.slice a n cap)) := LiesW.below (w := w20) H6.out b2024
        replace HOW : Hid (OwnG w24 w1.heap.size (.slice vwa N vwc) N Z) := OwnG.below (w := w20) HOW.out b2024
        replace H12 : Hid (Lies w24 P12 F T D (.slice vwa N vwc)) := Lies.below (w := w20) H12.out b2024
        replace HOG : Hid (OwnG w24 w8.heap.size (.slice vga N vgc) N (marks 1 (N * 5))) := OwnG.below (w := w20) HOG.out b2024
        replace H15 : Hid (Lies w24 w9.heap.size F T D (.slice vga N vgc)) := Lies.below (w := w20) H15.out b2024
        have B24 := bstep B20 b2024
        have s24 := b2024.size
        clear b2024
        have i0 := Lies.c0 H19.out
        have i1 := Lies.c1 H19.out
        have i2 := Lies.c2 H19.out
        have i3 := Lies.c3 H19.out
        have j0 := Lies.c0 H12.out
        have j1 := Lies.c1 H12.out
        have j2 := Lies.c2 H12.out
        have j3 := Lies.c3 H12.out
        go_wp2_with fail
        clear i0 i1 i2 i3 j0 j1 j2 j3
        refine (eqLine_yes F T D _ _ N Z _ (OwnG.arg HOH.out) (OwnG.arg HOW.out) (by omega)).mono ?_
        rintro e w25 ⟨rfl, b25⟩
        replace H6 : Hid (LiesW w25 w.heap.size f t d (.slice a n cap)) := LiesW.below (w := w24) H6.out b25
        replace HOW : Hid (OwnG w25 w1.heap.size (.slice vwa N vwc) N Z) := OwnG.below (w := w24) HOW.out b25
        replace H12 : Hid (Lies w25 P12 F T D (.slice vwa N vwc)) := Lies.below (w := w24) H12.out b25
        replace HOG : Hid (OwnG w25 w8.heap.size (.slice vga N vgc) N (marks 1 (N * 5))) := OwnG.below (w := w24) HOG.out b25
        replace H15 : Hid (Lies w25 w9.heap.size F T D (.slice vga N vgc)) := Lies.below (w := w24) H15.out b25
        replace HOH : Hid (OwnG w25 w20.heap.size (.slice vha N vhc) N Z) := OwnG.below (w := w24) HOH.out b25
        replace H19 : Hid (Lies w25 P19 F T D (.slice vha N vhc)) := Lies.below (w := w24) H19.out b25
        have B25 := bstep B24 b25
        have s25 := b25.size
        have i0 := Lies.c0 H15.out
        have i1 := Lies.c1 H15.out
        have i2 := Lies.c2 H15.out
        have i3 := Lies.c3 H15.out
        go_wp2_with fail
        clear i0 i1 i2 i3
        refine (heldLine_any F T D _ N 1 _ (OwnG.arg HOG.out) (by omega) (by omega) (by omega)).mono ?_
        rintro e w26 ⟨rfl, b26⟩
        replace H6 : Hid (LiesW w26 w.heap.size f t d (.slice a n cap)) := LiesW.below (w := w25) H6.out b26
        replace HOW : Hid (OwnG w26 w1.heap.size (.slice vwa N vwc) N Z) := OwnG.below (w := w25) HOW.out b26
        replace H12 : Hid (Lies w26 P12 F T D (.slice vwa N vwc)) := Lies.below (w := w25) H12.out b26
        replace HOG : Hid (OwnG w26 w8.heap.size (.slice vga N vgc) N (marks 1 (N * 5))) := OwnG.below (w := w25) HOG.out b26
        replace H15 : Hid (Lies w26 w9.heap.size F T D (.slice vga N vgc)) := Lies.below (w := w25) H15.out b26
        replace HOH : Hid (OwnG w26 w20.heap.size (.slice vha N vhc) N Z) := OwnG.below (w := w25) HOH.out b26
        replace H19 : Hid (Lies w26 P19 F T D (.slice vha N vhc)) := Lies.below (w := w25) H19.out b26
        have B26 := bstep B25 b26
        have s26 := b26.size
        go_wp2_with fail
        go_ret
        exact ⟨rfl, B26⟩
end Go.Proofs.Ytgjhhfmhaalcnaa
