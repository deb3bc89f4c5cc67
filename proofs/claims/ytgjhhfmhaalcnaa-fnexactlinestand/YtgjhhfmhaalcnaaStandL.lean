import Derived.Test.YtgjhhfmhaalcnaaStandG
import Derived.Test.YtgjhhfmhaalcnaaStandMay
namespace Go.Proofs.Ytgjhhfmhaalcnaa
open Go.ChangeShapes Go.WideShapes Go.ChangeAt Go.RowKit
set_option linter.unusedSimpArgs false

/-- A line as it stands then: nothing, if anything is not ok. -/
def standOk (l : List Int) (f t d : Int) (n : Nat) (z : Nat → Int) (base wide align : Int) : Bool := lineOk l f t d n z && (inB base 0 1 && (inB wide 0 20000 && inB align 0 3))
def standZ (l : List Int) (f t d : Int) (n : Nat) (z : List Int) (base wide align : Int) : List Int := if standOk l f t d n (fn z) base wide align = true then mvL z n (byF base wide align d (fn z) n) else []
def standN (l : List Int) (f t d : Int) (n : Nat) (z : List Int) (base wide align : Int) : Nat := if standOk l f t d n (fn z) base wide align = true then n else 0
def keepI (q : Bool) (x : Int) : Int := if q = true then x else 0

set_option maxRecDepth 10000 in
set_option maxHeartbeats 1600000 in
theorem specStand (f t d : Int) (u : Value) (n : Nat) (z : List Int) (v : Value) (l : List Int) (base wide align : Int) (w : World) (hu : ArgG w u n z) (hv : Arg w v l) (hl : l.length ≤ 1048576) (hn : n ≤ 1048576) (q : Bool) (hq : Hid (standOk l f t d n (fn z) base wide align = q)) :
    Calls Try.prog 19 #[v, .agg #[.int .i64 f, .int .i64 t, .int .i64 d, u], .int .i64 base, .int .i64 wide, .int .i64 align] w fun e w' => (∃ v', e = .returned (.agg #[.int .i64 (keepI q f), .int .i64 (keepI q t), .int .i64 (keepI q d), v']) ∧ OwnG w' w.heap.size v' (standN l f t d n z base wide align) (standZ l f t d n z base wide align)) ∧ Below w.heap.size w w' := by
  have HU : Hid (∀ w', Below w.heap.size w w' → ArgG w' u n z) := fun w' b => hu.below b
  have HV : Hid (∀ w', Below w.heap.size w w' → Arg w' v l) := fun w' b => hv.below b
  obtain ⟨xu, zu, rfl⟩ : ∃ xu zu, u = .slice xu n zu := by
    rcases hu with ⟨a, c, rfl, rfl⟩ | ⟨b, c, rfl, _⟩
    · exact ⟨_, _, rfl⟩
    · exact ⟨_, _, rfl⟩
  obtain ⟨av, cv, rfl⟩ : ∃ av cv, v = .slice av l.length cv := by obtain ⟨a, c, e, _⟩ := hv.rdI; exact ⟨a, c, e⟩
  obtain ⟨q0, hq0⟩ : ∃ q, lineOk l f t d n (fn z) = q := ⟨_, rfl⟩
  obtain ⟨q1, hq1⟩ : ∃ q, inB base 0 1 = q := ⟨_, rfl⟩
  obtain ⟨q2, hq2⟩ : ∃ q, inB wide 0 20000 = q := ⟨_, rfl⟩
  obtain ⟨q3, hq3⟩ : ∃ q, inB align 0 3 = q := ⟨_, rfl⟩
  have hqq : q = (q0 && (q1 && (q2 && q3))) := by rw [← hq.out, ← hq0, ← hq1, ← hq2, ← hq3]; rfl
  have hZ : standZ l f t d n z base wide align = if q = true then mvL z n (byF base wide align d (fn z) n) else [] := by unfold standZ; rw [hq.out]
  have hN : standN l f t d n z base wide align = if q = true then n else 0 := by unfold standN; rw [hq.out]
  rw [hZ, hN]
  have HQ0 : Hid _ := hq0
  have HQ1 : Hid _ := hq1
  have HQ2 : Hid _ := hq2
  have HQ3 : Hid _ := hq3
  obtain ⟨W2, hW2⟩ : ∃ W, (w.alloc (.cells #[.int .i64 f, .int .i64 t, .int .i64 d, .slice xu n zu] 25)).alloc (.cells #[.int .i64 0, .int .i64 0, .int .i64 0, .slice none 0 0] 25) = W := ⟨_, rfl⟩
  have B2 : Below w.heap.size w W2 := by rw [← hW2]; go_grown
  have hs2 : W2.heap.size = w.heap.size + 2 := by rw [← hW2]; simp
  have L0 : Lies W2 w.heap.size f t d (.slice xu n zu) := by rw [← hW2]; exact (lies_new w f t d _).alloc _
  have L1 : Lies W2 (w.heap.size + 1) 0 0 0 (.slice none 0 0) := by
    rw [← hW2]
    have := lies_new (w.alloc (.cells #[.int .i64 f, .int .i64 t, .int .i64 d, .slice xu n zu] 25)) 0 0 0 (.slice none 0 0)
    rwa [size_new] at this
  have k0 := L0.c0
  have k1 := L0.c1
  have k2 := L0.c2
  have k3 := L0.c3
  have HL0 : Hid (Lies W2 w.heap.size f t d (.slice xu n zu)) := L0
  have HL1 : Hid (Lies W2 (w.heap.size + 1) 0 0 0 (.slice none 0 0)) := L1
  have HB2 : Hid _ := B2
  clear L0 L1 B2 hu hv hq0 hq1 hq2 hq3 hZ hN hq
  go_enter Try.func19, Try.ntmps19
  go_wp2_with fail
  refine (specMay f t d _ n z _ l _ (HU.out _ HB2.out) (HV.out _ HB2.out) hl hn q0 HQ0).mono ?_
  rintro e w3 ⟨rfl, b3⟩
  have HL3 : Hid (Lies w3 w.heap.size f t d (.slice xu n zu)) := Lies.below (w := W2) HL0.out b3
  have HR3 : Hid (Lies w3 (w.heap.size + 1) 0 0 0 (.slice none 0 0)) := Lies.below (w := W2) HL1.out b3
  have HB3 : Hid (Below w.heap.size w w3) := bstep HB2.out b3
  have hs3 := b3.size
  rw [hs2] at hs3
  clear b3 k0 k1 k2 k3 hW2 hs2 HL0 HL1 HB2
  have m0 := Lies.c0 HL3.out
  have m1 := Lies.c1 HL3.out
  have m2 := Lies.c2 HL3.out
  have m3 := Lies.c3 HL3.out
  have r0 := Lies.c0 HR3.out
  have r1 := Lies.c1 HR3.out
  have r2 := Lies.c2 HR3.out
  have r3 := Lies.c3 HR3.out
  have p0 := Lies.fz HR3.out 0
  have p1 := Lies.fz HR3.out 1
  have p2 := Lies.fz HR3.out 2
  have p3 := Lies.fz HR3.out 3
  have HZF : Hid _ := Lies.four (f' := 0) (t' := 0) (d' := 0) (v' := .slice none 0 0) HR3.out
  have HZB : Hid _ := (((HB3.out.setCell (p := ⟨w.heap.size + 1, 0, none⟩) (by show w.heap.size ≤ w.heap.size + 1; omega) (.int .i64 0)).setCell (p := ⟨w.heap.size + 1, 1, none⟩) (by show w.heap.size ≤ w.heap.size + 1; omega) (.int .i64 0)).setCell (p := ⟨w.heap.size + 1, 2, none⟩) (by show w.heap.size ≤ w.heap.size + 1; omega) (.int .i64 0)).setCell (p := ⟨w.heap.size + 1, 3, none⟩) (by show w.heap.size ≤ w.heap.size + 1; omega) (.slice none 0 0)
  cases q0 with
  | false =>
    have e : q = false := by rw [hqq]; rfl
    subst e
    clear hqq
    go_wp2_with fail
    have e0 := Lies.c0 HZF.out
    have e1 := Lies.c1 HZF.out
    have e2 := Lies.c2 HZF.out
    have e3 := Lies.c3 HZF.out
    refine bodyPost_ret (v := .agg #[.int .i64 0, .int .i64 0, .int .i64 0, .slice none 0 0]) (by simp [results, Try.results19, go_sem, e0, e1, e2, e3]) rfl ⟨⟨_, by simp [keepI], OwnG.nil _ _⟩, ?_⟩
    exact HZB.out
  | true =>
    go_wp2_with fail
    refine (specIn_q _ _ _ _ q1 HQ1).mono ?_
    rintro e w4 ⟨rfl, rfl⟩
    cases q1 with
    | false =>
      have e : q = false := by rw [hqq]; rfl
      subst e
      clear hqq
      go_wp2_with fail
      have e0 := Lies.c0 HZF.out
      have e1 := Lies.c1 HZF.out
      have e2 := Lies.c2 HZF.out
      have e3 := Lies.c3 HZF.out
      refine bodyPost_ret (v := .agg #[.int .i64 0, .int .i64 0, .int .i64 0, .slice none 0 0]) (by simp [results, Try.results19, go_sem, e0, e1, e2, e3]) rfl ⟨⟨_, by simp [keepI], OwnG.nil _ _⟩, ?_⟩
      exact HZB.out
    | true =>
      go_wp2_with fail
      refine (specIn_q _ _ _ _ q2 HQ2).mono ?_
      rintro e w5 ⟨rfl, rfl⟩
      cases q2 with
      | false =>
        have e : q = false := by rw [hqq]; rfl
        subst e
        clear hqq
        go_wp2_with fail
        have e0 := Lies.c0 HZF.out
        have e1 := Lies.c1 HZF.out
        have e2 := Lies.c2 HZF.out
        have e3 := Lies.c3 HZF.out
        refine bodyPost_ret (v := .agg #[.int .i64 0, .int .i64 0, .int .i64 0, .slice none 0 0]) (by simp [results, Try.results19, go_sem, e0, e1, e2, e3]) rfl ⟨⟨_, by simp [keepI], OwnG.nil _ _⟩, ?_⟩
        exact HZB.out
      | true =>
        go_wp2_with fail
        refine (specIn_q _ _ _ _ q3 HQ3).mono ?_
        rintro e w6 ⟨rfl, rfl⟩
        cases q3 with
        | false =>
          have e : q = false := by rw [hqq]; rfl
          subst e
          clear hqq
          go_wp2_with fail
          have e0 := Lies.c0 HZF.out
          have e1 := Lies.c1 HZF.out
          have e2 := Lies.c2 HZF.out
          have e3 := Lies.c3 HZF.out
          refine bodyPost_ret (v := .agg #[.int .i64 0, .int .i64 0, .int .i64 0, .slice none 0 0]) (by simp [results, Try.results19, go_sem, e0, e1, e2, e3]) rfl ⟨⟨_, by simp [keepI], OwnG.nil _ _⟩, ?_⟩
          exact HZB.out
        | true =>
          have e : q = true := by rw [hqq]; rfl
          subst e
          clear hqq HZF HZB
          have hbd : Hid (glyBd (fn z) n) := glyBd_of HQ0.out
          obtain ⟨_, _, hd, hn80, _⟩ := lineOk_out HQ0.out
          have hd2 : 0 ≤ d ∧ d ≤ 20000 := by simpa [in1] using hd
          have hbs : base = 0 ∨ base = 1 := by have := HQ1.out; simp only [inB, decide_eq_true_eq] at this; omega
          have hwd : 0 ≤ wide ∧ wide ≤ 20000 := by have := HQ2.out; simpa [inB] using this
          have HN80 : Hid _ := hn80
          clear hd hn80
          obtain ⟨w3, rfl⟩ : ∃ w' : World, w' = w6 := ⟨_, rfl⟩
          go_wp2_with fail
          refine (specStand8 f t d _ n z base wide align _ (HU.out _ HB3.out) HN80.out hbd hd2.1 hd2.2 hwd.1 hwd.2 hbs).mono ?_
          rintro e w7 ⟨⟨v7, rfl, o7⟩, b7⟩
          have r7 := Lies.below (w := w3) HR3.out b7
          have s0 := r7.c0
          have s1 := r7.c1
          have s2 := r7.c2
          have s3 := r7.c3
          have t0 := r7.fz 0
          have t1 := r7.fz 1
          have t2 := r7.fz 2
          have t3 := r7.fz 3
          have HLF : Hid _ := Lies.four (f' := f) (t' := t) (d' := d) (v' := v7) r7
          have HG : Hid _ := fun k hk => (o7.lt k hk).1
          have HO : Hid (OwnG w7 w3.heap.size v7 n (mvL z n (byF base wide align d (fn z) n))) := o7
          have HB7 : Hid (Below w.heap.size w w7) := bstep HB3.out b7
          obtain ⟨a4, c4, hv4⟩ : ∃ a4 c4, v7 = .slice a4 n c4 := by
            rcases o7.forms with ⟨rfl, rfl⟩ | ⟨g, c, rfl, _⟩
            · exact ⟨_, _, rfl⟩
            · exact ⟨_, _, rfl⟩
          subst hv4
          clear o7 b7 r7 r0 r1 r2 r3 p0 p1 p2 p3 m0 m1 m2 m3
          go_wp2_with fail
          have e0 := Lies.c0 HLF.out
          have e1 := Lies.c1 HLF.out
          have e2 := Lies.c2 HLF.out
          have e3 := Lies.c3 HLF.out
          refine bodyPost_ret (v := .agg #[.int .i64 f, .int .i64 t, .int .i64 d, .slice a4 n c4]) (by simp [results, Try.results19, go_sem, e0, e1, e2, e3]) rfl ⟨⟨.slice a4 n c4, rfl, ?_⟩, ?_⟩
          · refine OwnG.mono (OwnG.kept HO.out (fun kk hk => ?_)) (by omega)
            have hkk := HG.out kk hk
            rw [heap_setCell_other _ _ _ _ (by show kk ≠ w.heap.size + 1; omega), heap_setCell_other _ _ _ _ (by show kk ≠ w.heap.size + 1; omega), heap_setCell_other _ _ _ _ (by show kk ≠ w.heap.size + 1; omega), heap_setCell_other _ _ _ _ (by show kk ≠ w.heap.size + 1; omega)]
          · exact (((HB7.out.setCell (by show w.heap.size ≤ w.heap.size + 1; omega) _).setCell (by show w.heap.size ≤ w.heap.size + 1; omega) _).setCell (by show w.heap.size ≤ w.heap.size + 1; omega) _).setCell (by show w.heap.size ≤ w.heap.size + 1; omega) _
end Go.Proofs.Ytgjhhfmhaalcnaa
