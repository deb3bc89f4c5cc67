import Derived.Test.YtgjhhfmhaalcnaaStandCp
namespace Go.Proofs.Ytgjhhfmhaalcnaa
open Go.ChangeShapes Go.WideShapes Go.ChangeAt Go.RowKit
set_option linter.unusedSimpArgs false
attribute [local go_sem ↓] Go.wp_at_zero Go.wp_at_succ

theorem byF_bd {base wide align d : Int} {z : Nat → Int} {n : Nat} (hn : n ≤ 80) (hb : glyBd z n) (h0 : 0 ≤ d) (h1 : d ≤ 20000) (h2 : 0 ≤ wide) (h3 : wide ≤ 20000) : -2000000 ≤ byF base wide align d z n ∧ byF base wide align d z n ≤ 2000000 := by
  have r := restF_bd (d := d) h0 h2 h3
  have q := roomF_bd (base := base) (align := align) r.1 r.2
  have s := sumG_bd hb n (Nat.le_refl _)
  unfold byF; split <;> omega

set_option maxRecDepth 10000 in
set_option maxHeartbeats 4000000 in
theorem specStand8 (f t d : Int) (u : Value) (n : Nat) (z : List Int) (base wide align : Int) (w : World) (hu : ArgG w u n z) (hn : n ≤ 80) (hbd : Hid (glyBd (fn z) n)) (h0 : 0 ≤ d) (h1 : d ≤ 20000) (h2 : 0 ≤ wide) (h3 : wide ≤ 20000) (h4 : base = 0 ∨ base = 1) :
    Calls Try.prog 48 #[.agg #[.int .i64 f, .int .i64 t, .int .i64 d, u], .int .i64 base, .int .i64 wide, .int .i64 align] w fun e w' => (∃ v', e = .returned (.agg #[.int .i64 f, .int .i64 t, .int .i64 d, v']) ∧ OwnG w' w.heap.size v' n (mvL z n (byF base wide align d (fn z) n))) ∧ Below w.heap.size w w' := by
  have HU : Hid (∀ w', Below w.heap.size w w' → ArgG w' u n z) := fun w' b => hu.below b
  obtain ⟨xu, zu, rfl⟩ : ∃ xu zu, u = .slice xu n zu := by
    rcases hu with ⟨a, c, rfl, rfl⟩ | ⟨b, c, rfl, _⟩
    · exact ⟨_, _, rfl⟩
    · exact ⟨_, _, rfl⟩
  have hbb := byF_bd (base := base) (align := align) hn hbd.out h0 h1 h2 h3
  have hrr := roomF_bd (base := base) (align := align) (restF_bd (d := d) h0 h2 h3).1 (restF_bd (d := d) h0 h2 h3).2
  have hss := sumG_bd hbd.out n (Nat.le_refl _)
  obtain ⟨R, hR⟩ : ∃ R, roomF base align (restF d wide) = R := ⟨_, rfl⟩
  obtain ⟨Y, hY⟩ : ∃ Y, byF base wide align d (fn z) n = Y := ⟨_, rfl⟩
  obtain ⟨S, hS⟩ : ∃ S, sumG (fn z) n = S := ⟨_, rfl⟩
  have HY : Hid (Y = if base = 1 then R - S + d else R) := by show _ = _; rw [← hY, ← hR, ← hS]; rfl
  have HR : Hid _ := hR
  have HS : Hid _ := hS
  rw [hY] at hbb ⊢
  rw [hR] at hrr
  rw [hS] at hss
  clear hu hY hR hS
  obtain ⟨W2, hW2⟩ : ∃ W, (w.alloc (.cells #[.int .i64 f, .int .i64 t, .int .i64 d, .slice xu n zu] 25)).alloc (.cells #[.int .i64 0, .int .i64 0, .int .i64 0, .slice none 0 0] 25) = W := ⟨_, rfl⟩
  have B2 : Below w.heap.size w W2 := by rw [← hW2]; go_grown
  have hs2 : W2.heap.size = w.heap.size + 2 := by rw [← hW2]; simp
  have L0 : Lies W2 w.heap.size f t d (.slice xu n zu) := by rw [← hW2]; exact (lies_new w f t d _).alloc _
  have L1 : Lies W2 (w.heap.size + 1) 0 0 0 (.slice none 0 0) := by
    rw [← hW2]
    have := lies_new (w.alloc (.cells #[.int .i64 f, .int .i64 t, .int .i64 d, .slice xu n zu] 25)) 0 0 0 (.slice none 0 0)
    rwa [size_new] at this
  have k0 := L0.c0
  have k1 := L0.c1
  have k2 := L0.c2
  have k3 := L0.c3
  have HL0 : Hid (Lies W2 w.heap.size f t d (.slice xu n zu)) := L0
  have HL1 : Hid (Lies W2 (w.heap.size + 1) 0 0 0 (.slice none 0 0)) := L1
  have HB2 : Hid _ := B2
  have hlt0 : w.heap.size < W2.heap.size := by omega
  clear L0 L1 B2
  go_enter Try.func48, Try.ntmps48
  go_wp2_with fail
  refine (specLeft f t d _ base wide align _ h0 h1 h2 h3 h4).mono ?_
  rintro e w3 ⟨rfl, b3⟩
  rw [HR.out]
  have HL3 : Hid (Lies w3 w.heap.size f t d (.slice xu n zu)) := Lies.below (w := W2) HL0.out b3
  have HR3 : Hid (Lies w3 (w.heap.size + 1) 0 0 0 (.slice none 0 0)) := Lies.below (w := W2) HL1.out b3
  have HB3 : Hid (Below w.heap.size w w3) := bstep HB2.out b3
  have hs3 := b3.size
  rw [hs2] at hs3
  have m0 := Lies.c0 HL3.out
  have m1 := Lies.c1 HL3.out
  have m2 := Lies.c2 HL3.out
  have m3 := Lies.c3 HL3.out
  clear b3 k0 k1 k2 k3 hW2 hs2 HL0 HL1 HB2 hlt0
  rcases h4 with rfl | rfl
  · have e : Y = R := by rw [HY.out]; simp
    subst e
    go_wp2_with fail
    refine (specCopy f t d _ n z Y _ (HU.out _ HB3.out) hn hbd hbb.1 hbb.2).mono ?_
    rintro e w4 ⟨⟨v4, rfl, o4⟩, b4⟩
    have r4 := Lies.below (w := w3) HR3.out b4
    have r0 := r4.c0
    have r1 := r4.c1
    have r2 := r4.c2
    have r3 := r4.c3
    have p0 := r4.fz 0
    have p1 := r4.fz 1
    have p2 := r4.fz 2
    have p3 := r4.fz 3
    have HLF : Hid _ := Lies.four (f' := f) (t' := t) (d' := d) (v' := v4) r4
    have hgg := fun k hk => (o4.lt k hk).1
    have HG : Hid _ := hgg
    have HO : Hid (OwnG w4 w3.heap.size v4 n (mvL z n Y)) := o4
    have HB4 : Hid (Below w.heap.size w w4) := bstep HB3.out b4
    obtain ⟨a4, c4, hv4⟩ : ∃ a4 c4, v4 = .slice a4 n c4 := by
      rcases o4.forms with ⟨rfl, rfl⟩ | ⟨g, c, rfl, _⟩
      · exact ⟨_, _, rfl⟩
      · exact ⟨_, _, rfl⟩
    subst hv4
    clear o4 b4 r4 hgg
    go_wp2_with fail
    have e0 := Lies.c0 HLF.out
    have e1 := Lies.c1 HLF.out
    have e2 := Lies.c2 HLF.out
    have e3 := Lies.c3 HLF.out
    refine bodyPost_ret (v := .agg #[.int .i64 f, .int .i64 t, .int .i64 d, .slice a4 n c4]) (by simp [results, Try.results48, go_sem, e0, e1, e2, e3]) rfl ⟨⟨_, rfl, ?_⟩, ?_⟩
    · refine OwnG.mono (OwnG.kept HO.out (fun kk hk => ?_)) (by omega)
      have hkk := HG.out kk hk
      rw [heap_setCell_other _ _ _ _ (by show kk ≠ w.heap.size + 1; omega), heap_setCell_other _ _ _ _ (by show kk ≠ w.heap.size + 1; omega), heap_setCell_other _ _ _ _ (by show kk ≠ w.heap.size + 1; omega), heap_setCell_other _ _ _ _ (by show kk ≠ w.heap.size + 1; omega)]
    · exact (((HB4.out.setCell (by show w.heap.size ≤ w.heap.size + 1; omega) _).setCell (by show w.heap.size ≤ w.heap.size + 1; omega) _).setCell (by show w.heap.size ≤ w.heap.size + 1; omega) _).setCell (by show w.heap.size ≤ w.heap.size + 1; omega) _
  · have e : Y = R - S + d := by rw [HY.out]; simp
    subst e
    have i1 : IntKind.i64.wrap (R - S) = R - S := by simp [IntKind.wrap, IntKind.bits, IntKind.signed]; omega
    have i2 : IntKind.i64.wrap (R - S + d) = R - S + d := by simp [IntKind.wrap, IntKind.bits, IntKind.signed]; omega
    go_wp2_with fail
    go_region_with (go_at_call 73; refine (specFull f t d _ n z _ (HU.out _ (bstep HB3.out (below_draws w3 1))) hn hbd).mono ?_; rintro e w4 ⟨rfl, b4⟩; rw [HS.out]; have nn := Lies.below (w := w3.drew) (f := f) (t := t) (d := d) (v := .slice xu n zu) HL3.out b4; have n0 := nn.c0; have n1 := nn.c1; have n2 := nn.c2; have n3 := nn.c3)
    all_goals (go_wp2_with fail)
    all_goals
      have HR4 : Hid (Lies w4 (w.heap.size + 1) 0 0 0 (.slice none 0 0)) := Lies.below (w := w3.drew) (f := 0) (t := 0) (d := 0) (v := .slice none 0 0) HR3.out b4
      have HB4 : Hid (Below w.heap.size w w4) := bstep (bstep HB3.out (below_draws w3 1)) b4
      have hs4 : w.heap.size + 2 ≤ w4.heap.size := by have := b4.size; exact Nat.le_trans hs3 this
      clear b4 nn n0 n1 n2 n3 m0 m1 m2 m3
      refine (specCopy f t d _ n z (R - S + d) _ (HU.out _ HB4.out) hn hbd hbb.1 hbb.2).mono ?_
      rintro e w6 ⟨⟨v4, rfl, o4⟩, b6⟩
      have r4 := Lies.below (w := w4) HR4.out b6
      have r0 := r4.c0
      have r1 := r4.c1
      have r2 := r4.c2
      have r3 := r4.c3
      have p0 := r4.fz 0
      have p1 := r4.fz 1
      have p2 := r4.fz 2
      have p3 := r4.fz 3
      have HLF : Hid _ := Lies.four (f' := f) (t' := t) (d' := d) (v' := v4) r4
      have hgg := fun k hk => (o4.lt k hk).1
      have HG : Hid _ := hgg
      have HO : Hid (OwnG w6 w4.heap.size v4 n (mvL z n (R - S + d))) := o4
      have HB4 : Hid (Below w.heap.size w w6) := bstep HB4.out b6
      obtain ⟨a4, c4, hv4⟩ : ∃ a4 c4, v4 = .slice a4 n c4 := by
        rcases o4.forms with ⟨rfl, rfl⟩ | ⟨g, c, rfl, _⟩
        · exact ⟨_, _, rfl⟩
        · exact ⟨_, _, rfl⟩
      subst hv4
      clear o4 b6 r4 hgg
      go_wp2_with fail
      have e0 := Lies.c0 HLF.out
      have e1 := Lies.c1 HLF.out
      have e2 := Lies.c2 HLF.out
      have e3 := Lies.c3 HLF.out
      refine bodyPost_ret (v := .agg #[.int .i64 f, .int .i64 t, .int .i64 d, .slice a4 n c4]) (by simp [results, Try.results48, go_sem, e0, e1, e2, e3]) rfl ⟨⟨_, rfl, ?_⟩, ?_⟩
      · refine OwnG.mono (OwnG.kept HO.out (fun kk hk => ?_)) (by omega)
        have hkk := HG.out kk hk
        rw [heap_setCell_other _ _ _ _ (by show kk ≠ w.heap.size + 1; omega), heap_setCell_other _ _ _ _ (by show kk ≠ w.heap.size + 1; omega), heap_setCell_other _ _ _ _ (by show kk ≠ w.heap.size + 1; omega), heap_setCell_other _ _ _ _ (by show kk ≠ w.heap.size + 1; omega)]
      · exact (((HB4.out.setCell (by show w.heap.size ≤ w.heap.size + 1; omega) _).setCell (by show w.heap.size ≤ w.heap.size + 1; omega) _).setCell (by show w.heap.size ≤ w.heap.size + 1; omega) _).setCell (by show w.heap.size ≤ w.heap.size + 1; omega) _
end Go.Proofs.Ytgjhhfmhaalcnaa
