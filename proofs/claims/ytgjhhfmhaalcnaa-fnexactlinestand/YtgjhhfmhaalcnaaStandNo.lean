import Derived.Test.YtgjhhfmhaalcnaaStandL
namespace Go.Proofs.Ytgjhhfmhaalcnaa
open Go.ChangeShapes Go.WideShapes Go.ChangeAt Go.RowKit
set_option linter.unusedSimpArgs false

set_option maxRecDepth 10000 in
set_option maxHeartbeats 1600000 in
/-- The program's answer where anything is not ok: the empty line. -/
theorem implStandNo (f t d : Int) (u : Value) (n : Nat) (z : List Int) (v : Value) (l : List Int) (base wide align : Int) (w : World) (hu : ArgG w u n z) (hv : Arg w v l) (hl : l.length ≤ 1048576) (hn : n ≤ 1048576) (hq : Hid (standOk l f t d n (fn z) base wide align = false)) :
    Calls Try.prog 22 #[v, .agg #[.int .i64 f, .int .i64 t, .int .i64 d, u], .int .i64 base, .int .i64 wide, .int .i64 align] w fun e w' => e = .returned (.agg #[.int .i64 0, .int .i64 0, .int .i64 0, .slice none 0 0]) ∧ Below w.heap.size w w' := by
  have HU : Hid (∀ w', Below w.heap.size w w' → ArgG w' u n z) := fun w' b => hu.below b
  have HV : Hid (∀ w', Below w.heap.size w w' → Arg w' v l) := fun w' b => hv.below b
  obtain ⟨xu, zu, rfl⟩ : ∃ xu zu, u = .slice xu n zu := by
    rcases hu with ⟨a, c, rfl, rfl⟩ | ⟨b, c, rfl, _⟩
    · exact ⟨_, _, rfl⟩
    · exact ⟨_, _, rfl⟩
  obtain ⟨av, cv, rfl⟩ : ∃ av cv, v = .slice av l.length cv := by obtain ⟨a, c, e, _⟩ := hv.rdI; exact ⟨a, c, e⟩
  obtain ⟨q0, hq0⟩ : ∃ q, lineOk l f t d n (fn z) = q := ⟨_, rfl⟩
  have HQ0 : Hid _ := hq0
  obtain ⟨W2, hW2⟩ : ∃ W, (w.alloc (.cells #[.int .i64 f, .int .i64 t, .int .i64 d, .slice xu n zu] 25)).alloc (.cells #[.int .i64 0, .int .i64 0, .int .i64 0, .slice none 0 0] 25) = W := ⟨_, rfl⟩
  have B2 : Below w.heap.size w W2 := by rw [← hW2]; go_grown
  have hs2 : W2.heap.size = w.heap.size + 2 := by rw [← hW2]; simp
  have L0 : Lies W2 w.heap.size f t d (.slice xu n zu) := by rw [← hW2]; exact (lies_new w f t d _).alloc _
  have L1 : Lies W2 (w.heap.size + 1) 0 0 0 (.slice none 0 0) := by
    rw [← hW2]
    have := lies_new (w.alloc (.cells #[.int .i64 f, .int .i64 t, .int .i64 d, .slice xu n zu] 25)) 0 0 0 (.slice none 0 0)
    rwa [size_new] at this
  have k0 := L0.c0
  have k1 := L0.c1
  have k2 := L0.c2
  have k3 := L0.c3
  have HL0 : Hid (Lies W2 w.heap.size f t d (.slice xu n zu)) := L0
  have HL1 : Hid (Lies W2 (w.heap.size + 1) 0 0 0 (.slice none 0 0)) := L1
  have HB2 : Hid _ := B2
  clear L0 L1 B2 hu hv hq0
  go_enter Try.func22, Try.ntmps22
  go_wp2_with fail
  refine (implMay f t d _ n z _ l _ (HU.out _ HB2.out) (HV.out _ HB2.out) hl hn q0 HQ0).mono ?_
  rintro e w3 ⟨rfl, b3⟩
  have HL3 : Hid (Lies w3 w.heap.size f t d (.slice xu n zu)) := Lies.below (w := W2) HL0.out b3
  have HR3 : Hid (Lies w3 (w.heap.size + 1) 0 0 0 (.slice none 0 0)) := Lies.below (w := W2) HL1.out b3
  have HB3 : Hid (Below w.heap.size w w3) := bstep HB2.out b3
  have hs3 := b3.size
  rw [hs2] at hs3
  clear b3 k0 k1 k2 k3 hW2 hs2 HL0 HL1 HB2
  have m0 := Lies.c0 HL3.out
  have m1 := Lies.c1 HL3.out
  have m2 := Lies.c2 HL3.out
  have m3 := Lies.c3 HL3.out
  have r0 := Lies.c0 HR3.out
  have r1 := Lies.c1 HR3.out
  have r2 := Lies.c2 HR3.out
  have r3 := Lies.c3 HR3.out
  have p0 := Lies.fz HR3.out 0
  have p1 := Lies.fz HR3.out 1
  have p2 := Lies.fz HR3.out 2
  have p3 := Lies.fz HR3.out 3
  have HZF : Hid _ := Lies.four (f' := 0) (t' := 0) (d' := 0) (v' := .slice none 0 0) HR3.out
  have HZB : Hid _ := (((HB3.out.setCell (p := ⟨w.heap.size + 1, 0, none⟩) (by show w.heap.size ≤ w.heap.size + 1; omega) (.int .i64 0)).setCell (p := ⟨w.heap.size + 1, 1, none⟩) (by show w.heap.size ≤ w.heap.size + 1; omega) (.int .i64 0)).setCell (p := ⟨w.heap.size + 1, 2, none⟩) (by show w.heap.size ≤ w.heap.size + 1; omega) (.int .i64 0)).setCell (p := ⟨w.heap.size + 1, 3, none⟩) (by show w.heap.size ≤ w.heap.size + 1; omega) (.slice none 0 0)
  cases q0 with
  | false =>
    clear hq
    go_wp2_with fail
    have e0 := Lies.c0 HZF.out
    have e1 := Lies.c1 HZF.out
    have e2 := Lies.c2 HZF.out
    have e3 := Lies.c3 HZF.out
    refine bodyPost_ret (v := .agg #[.int .i64 0, .int .i64 0, .int .i64 0, .slice none 0 0]) (by simp [results, Try.results22, go_sem, e0, e1, e2, e3]) rfl ⟨rfl, ?_⟩
    exact HZB.out
  | true =>
    have HNO : Hid (¬ ((base = 0 ∨ base = 1) ∧ in1 wide 0 20000 = true ∧ 0 ≤ align ∧ align ≤ 3)) := fun hh => by
      have h := hq.out
      unfold standOk at h
      rw [HQ0.out] at h
      obtain ⟨h1, h2, h3, h4⟩ := hh
      have a1 : inB base 0 1 = true := by unfold inB; rw [decide_eq_true_eq]; omega
      have a2 : inB wide 0 20000 = true := h2
      have a3 : inB align 0 3 = true := by unfold inB; rw [decide_eq_true_eq]; omega
      rw [a1, a2, a3] at h
      exact absurd h (by decide)
    clear hq
    by_cases hb0 : base = 0
    · subst hb0
      go_wp2_with fail
      refine (implWideOk _ _).mono ?_
      rintro e w4 ⟨rfl, rfl⟩
      cases hw : in1 wide 0 20000 with
      | false =>
        clear hw
        go_wp2_with fail
        have e0 := Lies.c0 HZF.out
        have e1 := Lies.c1 HZF.out
        have e2 := Lies.c2 HZF.out
        have e3 := Lies.c3 HZF.out
        refine bodyPost_ret (v := .agg #[.int .i64 0, .int .i64 0, .int .i64 0, .slice none 0 0]) (by simp [results, Try.results22, go_sem, e0, e1, e2, e3]) rfl ⟨rfl, ?_⟩
        exact HZB.out
      | true =>
        by_cases ha : align < 0
        · clear hw
          go_wp2_with fail
          have e0 := Lies.c0 HZF.out
          have e1 := Lies.c1 HZF.out
          have e2 := Lies.c2 HZF.out
          have e3 := Lies.c3 HZF.out
          refine bodyPost_ret (v := .agg #[.int .i64 0, .int .i64 0, .int .i64 0, .slice none 0 0]) (by simp [results, Try.results22, go_sem, e0, e1, e2, e3]) rfl ⟨rfl, ?_⟩
          exact HZB.out
        · have ha3 : 3 < align := by
            by_cases h : 3 < align
            · exact h
            · exact absurd ⟨by simp, hw, by omega, by omega⟩ HNO.out
          clear hw
          go_wp2_with fail
          have e0 := Lies.c0 HZF.out
          have e1 := Lies.c1 HZF.out
          have e2 := Lies.c2 HZF.out
          have e3 := Lies.c3 HZF.out
          refine bodyPost_ret (v := .agg #[.int .i64 0, .int .i64 0, .int .i64 0, .slice none 0 0]) (by simp [results, Try.results22, go_sem, e0, e1, e2, e3]) rfl ⟨rfl, ?_⟩
          exact HZB.out
    · by_cases hb1 : base = 1
      · subst hb1
        clear hb0
        go_wp2_with fail
        refine (implWideOk _ _).mono ?_
        rintro e w4 ⟨rfl, rfl⟩
        cases hw : in1 wide 0 20000 with
        | false =>
          clear hw
          go_wp2_with fail
          have e0 := Lies.c0 HZF.out
          have e1 := Lies.c1 HZF.out
          have e2 := Lies.c2 HZF.out
          have e3 := Lies.c3 HZF.out
          refine bodyPost_ret (v := .agg #[.int .i64 0, .int .i64 0, .int .i64 0, .slice none 0 0]) (by simp [results, Try.results22, go_sem, e0, e1, e2, e3]) rfl ⟨rfl, ?_⟩
          exact HZB.out
        | true =>
          by_cases ha : align < 0
          · clear hw
            go_wp2_with fail
            have e0 := Lies.c0 HZF.out
            have e1 := Lies.c1 HZF.out
            have e2 := Lies.c2 HZF.out
            have e3 := Lies.c3 HZF.out
            refine bodyPost_ret (v := .agg #[.int .i64 0, .int .i64 0, .int .i64 0, .slice none 0 0]) (by simp [results, Try.results22, go_sem, e0, e1, e2, e3]) rfl ⟨rfl, ?_⟩
            exact HZB.out
          · have ha3 : 3 < align := by
              by_cases h : 3 < align
              · exact h
              · exact absurd ⟨by simp, hw, by omega, by omega⟩ HNO.out
            clear hw
            go_wp2_with fail
            have e0 := Lies.c0 HZF.out
            have e1 := Lies.c1 HZF.out
            have e2 := Lies.c2 HZF.out
            have e3 := Lies.c3 HZF.out
            refine bodyPost_ret (v := .agg #[.int .i64 0, .int .i64 0, .int .i64 0, .slice none 0 0]) (by simp [results, Try.results22, go_sem, e0, e1, e2, e3]) rfl ⟨rfl, ?_⟩
            exact HZB.out
      · go_wp2_with fail
        have e0 := Lies.c0 HZF.out
        have e1 := Lies.c1 HZF.out
        have e2 := Lies.c2 HZF.out
        have e3 := Lies.c3 HZF.out
        refine bodyPost_ret (v := .agg #[.int .i64 0, .int .i64 0, .int .i64 0, .slice none 0 0]) (by simp [results, Try.results22, go_sem, e0, e1, e2, e3]) rfl ⟨rfl, ?_⟩
        exact HZB.out
end Go.Proofs.Ytgjhhfmhaalcnaa
