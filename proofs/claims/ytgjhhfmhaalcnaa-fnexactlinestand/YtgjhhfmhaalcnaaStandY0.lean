import Derived.Test.YtgjhhfmhaalcnaaStandL
import Derived.Deep.DrawnRows
namespace Go.Proofs.Ytgjhhfmhaalcnaa
open Go.ChangeShapes Go.WideShapes Go.ChangeAt Go.RowKit
set_option linter.unusedSimpArgs false

theorem mvL_succ (z : List Int) (k : Nat) (M : Int) : mvL z (k + 1) M = mvL z k M ++ [fn z (k * 5), fn z (k * 5 + 1), fn z (k * 5 + 2) + M, fn z (k * 5 + 3), fn z (k * 5 + 4)] := by
  have e : (k + 1) * 5 = k * 5 + 1 + 1 + 1 + 1 + 1 := by omega
  unfold mvL
  rw [e, List.range_succ, List.range_succ, List.range_succ, List.range_succ, List.range_succ]
  have h0 : ¬ (k * 5) % 5 = 2 := by omega
  have h1 : ¬ (k * 5 + 1) % 5 = 2 := by omega
  have h2 : (k * 5 + 2) % 5 = 2 := by omega
  have h3 : ¬ (k * 5 + 3) % 5 = 2 := by omega
  have h4 : ¬ (k * 5 + 4) % 5 = 2 := by omega
  simp only [List.map_append, List.map_cons, List.map_nil, List.append_assoc, List.cons_append, List.nil_append, mvF, Nat.add_assoc, Nat.reduceAdd, if_neg h0, if_neg h1, if_pos h2, if_neg h3, if_neg h4]

set_option maxRecDepth 10000 in
set_option maxHeartbeats 4000000 in
theorem implStand0 (f t d : Int) (u : Value) (n : Nat) (z : List Int) (v : Value) (l : List Int) (wide align : Int) (w : World) (hu : ArgG w u n z) (hv : Arg w v l) (hl : l.length ≤ 1048576) (hn : n ≤ 1048576) (hq : Hid (lineOk l f t d n (fn z) = true)) (hw0 : 0 ≤ wide) (hw1 : wide ≤ 20000) (ha0 : 0 ≤ align) (ha3 : align ≤ 3) :
    Calls Try.prog 22 #[v, .agg #[.int .i64 f, .int .i64 t, .int .i64 d, u], .int .i64 0, .int .i64 wide, .int .i64 align] w fun e w' => (∃ v', e = .returned (.agg #[.int .i64 f, .int .i64 t, .int .i64 d, v']) ∧ OwnG w' w.heap.size v' n (mvL z n (byF 0 wide align d (fn z) n))) ∧ Below w.heap.size w w' := by
  have HU : Hid (∀ w', Below w.heap.size w w' → ArgG w' u n z) := fun w' b => hu.below b
  have HV : Hid (∀ w', Below w.heap.size w w' → Arg w' v l) := fun w' b => hv.below b
  obtain ⟨xu, zu, rfl⟩ : ∃ xu zu, u = .slice xu n zu := by
    rcases hu with ⟨a, c, rfl, rfl⟩ | ⟨b, c, rfl, _⟩
    · exact ⟨_, _, rfl⟩
    · exact ⟨_, _, rfl⟩
  obtain ⟨av, cv, rfl⟩ : ∃ av cv, v = .slice av l.length cv := by obtain ⟨a, c, e, _⟩ := hv.rdI; exact ⟨a, c, e⟩
  have hbd : Hid (glyBd (fn z) n) := glyBd_of hq.out
  obtain ⟨_, _, hd, hn80, _⟩ := lineOk_out hq.out
  have hd2 : 0 ≤ d ∧ d ≤ 20000 := by simpa [in1] using hd
  have hwk : in1 wide 0 20000 = true := by unfold in1; rw [decide_eq_true_eq]; exact ⟨hw0, hw1⟩
  have HWK : Hid _ := hwk
  obtain ⟨hd0, hd1⟩ := hd2
  clear hd hwk
  have hR := restF_bd hd0 hw0 hw1
  obtain ⟨M, hM⟩ : ∃ M, byF 0 wide align d (fn z) n = M := ⟨_, rfl⟩
  rw [hM]
  have hMr : roomF 0 align (restF d wide) = M := by rw [← hM]; unfold byF; rw [if_neg (by decide)]
  have hMb := roomF_bd (base := 0) (align := align) hR.1 hR.2
  rw [hMr] at hMb
  have hMa : 0 ≤ wide - d → roomF 0 align (wide - d) = M := fun h => by rw [← hMr]; unfold restF; rw [if_neg (by omega)]
  have hMz : ¬ 0 ≤ wide - d → roomF 0 align 0 = M := fun h => by rw [← hMr]; unfold restF; rw [if_pos (by omega)]
  have HMA : Hid _ := hMa
  have HMZ : Hid _ := hMz
  have hd3 : ¬ 0 ≤ wide - d ∨ 0 ≤ wide - d ∧ wide - d ≤ 20000 := by omega
  clear hMa hMz hR hMr hM
  obtain ⟨W2, hW2⟩ : ∃ W, (w.alloc (.cells #[.int .i64 f, .int .i64 t, .int .i64 d, .slice xu n zu] 25)).alloc (.cells #[.int .i64 0, .int .i64 0, .int .i64 0, .slice none 0 0] 25) = W := ⟨_, rfl⟩
  have B2 : Below w.heap.size w W2 := by rw [← hW2]; go_grown
  have hs2 : W2.heap.size = w.heap.size + 2 := by rw [← hW2]; simp
  have L0 : Lies W2 w.heap.size f t d (.slice xu n zu) := by rw [← hW2]; exact (lies_new w f t d _).alloc _
  have L1 : Lies W2 (w.heap.size + 1) 0 0 0 (.slice none 0 0) := by
    rw [← hW2]
    have := lies_new (w.alloc (.cells #[.int .i64 f, .int .i64 t, .int .i64 d, .slice xu n zu] 25)) 0 0 0 (.slice none 0 0)
    rwa [size_new] at this
  have k0 := L0.c0
  have k1 := L0.c1
  have k2 := L0.c2
  have k3 := L0.c3
  have HL0 : Hid (Lies W2 w.heap.size f t d (.slice xu n zu)) := L0
  have HL1 : Hid (Lies W2 (w.heap.size + 1) 0 0 0 (.slice none 0 0)) := L1
  have HB2 : Hid _ := B2
  clear L0 L1 B2 hu hv
  go_enter Try.func22, Try.ntmps22
  go_wp2_with fail
  refine (implMay f t d _ n z _ l _ (HU.out _ HB2.out) (HV.out _ HB2.out) hl hn true hq).mono ?_
  rintro e w3 ⟨rfl, b3⟩
  have HL3 : Hid (Lies w3 w.heap.size f t d (.slice xu n zu)) := Lies.below (w := W2) HL0.out b3
  have HR3 : Hid (Lies w3 (w.heap.size + 1) 0 0 0 (.slice none 0 0)) := Lies.below (w := W2) HL1.out b3
  have HB3 : Hid (Below w.heap.size w w3) := bstep HB2.out b3
  have hs3 := b3.size
  rw [hs2] at hs3
  clear b3 k0 k1 k2 k3 hW2 hs2 HL0 HL1 HB2
  have m0 := Lies.c0 HL3.out
  have m1 := Lies.c1 HL3.out
  have m2 := Lies.c2 HL3.out
  have m3 := Lies.c3 HL3.out
  have r0 := Lies.c0 HR3.out
  have r1 := Lies.c1 HR3.out
  have r2 := Lies.c2 HR3.out
  have r3 := Lies.c3 HR3.out
  have p0 := Lies.fz HR3.out 0
  have p1 := Lies.fz HR3.out 1
  have p2 := Lies.fz HR3.out 2
  have p3 := Lies.fz HR3.out 3
  go_wp2_with fail
  refine (implWideOk _ _).mono ?_
  rintro e w4 ⟨rfl, rfl⟩
  rw [HWK.out]
  rcases hd3 with hneg | ⟨hpos, hle⟩
  · go_wp2_with fail
    refine (standOf_any 0 align _ _ (.inl rfl)).mono ?_
    rintro e w5 ⟨rfl, rfl⟩
    go_wp2_with fail
    refine (roomAhead_any 0 align _ _ (by omega) (by omega)).mono ?_
    rintro e w6 ⟨rfl, b6⟩
    rw [HMZ.out hneg]
    have HL6 : Hid (Lies w6 w.heap.size f t d (.slice xu n zu)) := Lies.below (w := w5) HL3.out b6
    have HR6 : Hid (Lies w6 (w.heap.size + 1) 0 0 0 (.slice none 0 0)) := Lies.below (w := w5) HR3.out b6
    have HB6 : Hid (Below w.heap.size w w6) := bstep HB3.out b6
    have hs6 := b6.size
    clear b6 m0 m1 m2 m3 r0 r1 r2 r3 p0 p1 p2 p3 HL3 HR3 HB3
    have m0 := Lies.c0 HL6.out
    have m1 := Lies.c1 HL6.out
    have m2 := Lies.c2 HL6.out
    have m3 := Lies.c3 HL6.out
    go_wp2_with fail
    refine (lineLike_any f t d _ _).mono ?_
    rintro e w7 ⟨rfl, b7⟩
    have HL7 : Hid (Lies w7 w.heap.size f t d (.slice xu n zu)) := Lies.below (w := w6) HL6.out b7
    have HR7 : Hid (Lies w7 (w.heap.size + 1) 0 0 0 (.slice none 0 0)) := Lies.below (w := w6) HR6.out b7
    have HB7 : Hid (Below w.heap.size w w7) := bstep HB6.out b7
    have hs7 := b7.size
    clear b7 m0 m1 m2 m3 HL6 HR6 HB6
    have HL8 : Hid _ := Lies.alloc (w := w7) HL7.out (.cells #[.int .i64 f, .int .i64 t, .int .i64 d, .slice none 0 0, .int .i64 0] 78)
    have HR8 : Hid _ := Lies.alloc (w := w7) HR7.out (.cells #[.int .i64 f, .int .i64 t, .int .i64 d, .slice none 0 0, .int .i64 0] 78)
    have HB8 : Hid _ := bstep HB7.out (below_new w7 (.cells #[.int .i64 f, .int .i64 t, .int .i64 d, .slice none 0 0, .int .i64 0] 78))
    have HF8 : Hid (Five (w7.alloc (.cells #[.int .i64 f, .int .i64 t, .int .i64 d, .slice none 0 0, .int .i64 0] 78)) w7.heap.size f t d (.slice none 0 0) 0) := by
      show (w7.heap.push _)[w7.heap.size]? = _
      simp
    have m3 := Lies.c3 HL8.out
    go_wp2_with fail
    clear m3
    go_loopw [75] (fun i wr => ∃ k : Nat, k ≤ n ∧ i = .int .i64 k ∧ Hid (∃ v' x, OwnG wr (w7.heap.size + 1) v' k (mvL z k M) ∧ Five wr w7.heap.size f t d v' x) ∧ Hid (Lies wr (w.heap.size + 1) 0 0 0 (.slice none 0 0)) ∧ Hid (Below w.heap.size w wr)) (fun i _ => n - (intOf i).toNat)
    case atStart => exact ⟨0, Nat.zero_le _, rfl, ⟨_, _, OwnG.nil _ _, HF8.out⟩, HR8, HB8⟩
    case round =>
      obtain ⟨k, hk, rfl, hown, hr, hb⟩ := hrel
      clear HL7 HR7 HB7 HL8 HR8 HB8 HF8
      obtain ⟨v1, x1, o1, f1⟩ := hown.out
      have hPw : w7.heap.size < wr.heap.size := (Array.getElem?_eq_some_iff.1 f1).1
      by_cases hlt : k < n
      · rcases HU.out wr hb.out with ⟨a, c, e, h0⟩ | ⟨b, c, e, hbw, _, _, hat⟩
        · omega
        · cases e
          have c0 := hat (k * 5) (by omega)
          have c1 := hat (k * 5 + 1) (by omega)
          have c2 := hat (k * 5 + 2) (by omega)
          have c3 := hat (k * 5 + 3) (by omega)
          have c4 := hat (k * 5 + 4) (by omega)
          have hbd2 := hbd.out k hlt
          have hki : (k : Int) < (n : Int) := by omega
          obtain ⟨a1, cp1, hv1⟩ : ∃ a1 cp1, v1 = .slice a1 k cp1 := by
            rcases o1.forms with ⟨rfl, rfl⟩ | ⟨g, c, rfl, _⟩
            · exact ⟨_, _, rfl⟩
            · exact ⟨_, _, rfl⟩
          subst hv1
          obtain ⟨U, hU⟩ : ∃ U, wr.alloc (.cells #[.int .i64 (fn z (k * 5)), .int .i64 (fn z (k * 5 + 1)), .int .i64 (fn z (k * 5 + 2)), .int .i64 (fn z (k * 5 + 3)), .int .i64 (fn z (k * 5 + 4))] 31) = U := ⟨_, rfl⟩
          have bU : Below wr.heap.size wr U := by rw [← hU]; exact below_new _ _
          have sU : U.heap.size = wr.heap.size + 1 := by rw [← hU]; exact size_new _ _
          have gU : U.heap[wr.heap.size]? = some (.cells #[.int .i64 (fn z (k * 5)), .int .i64 (fn z (k * 5 + 1)), .int .i64 (fn z (k * 5 + 2)), .int .i64 (fn z (k * 5 + 3)), .int .i64 (fn z (k * 5 + 4))] 31 (0, 0)) := by
            rw [← hU]; show (wr.heap.push _)[wr.heap.size]? = _; simp
          have fU : Five U w7.heap.size f t d (.slice a1 k cp1) x1 := (bU.block _ hPw).trans f1
          have HO1 : Hid (OwnG U (w7.heap.size + 1) (.slice a1 k cp1) k (mvL z k M)) := o1.below bU
          have HF1 : Hid (Five U w7.heap.size f t d (.slice a1 k cp1) x1) := fU
          have HGU : Hid (∀ w', Below U.heap.size U w' → w'.heap[wr.heap.size]? = U.heap[wr.heap.size]?) := fun w' bb => bb.block _ (by rw [sU]; omega)
          have HGE : Hid _ := gU
          have HRU : Hid (Lies U (w.heap.size + 1) 0 0 0 (.slice none 0 0)) := Lies.below (w := wr) hr.out bU
          have HBU : Hid (Below w.heap.size w U) := bstep hb.out bU
          have y0 := fU.c0
          have y1 := fU.c1
          have y2 := fU.c2
          have y3 := fU.c3
          have y4 := fU.c4
          have x0 : U.cell? ⟨wr.heap.size, 0, none⟩ = some (.int .i64 (fn z (k * 5))) := by rw [Lib.cell_of_heap gU]; rfl
          have x1' : U.cell? ⟨wr.heap.size, 1, none⟩ = some (.int .i64 (fn z (k * 5 + 1))) := by rw [Lib.cell_of_heap gU]; rfl
          have x2 : U.cell? ⟨wr.heap.size, 2, none⟩ = some (.int .i64 (fn z (k * 5 + 2))) := by rw [Lib.cell_of_heap gU]; rfl
          have x3 : U.cell? ⟨wr.heap.size, 3, none⟩ = some (.int .i64 (fn z (k * 5 + 3))) := by rw [Lib.cell_of_heap gU]; rfl
          have x4 : U.cell? ⟨wr.heap.size, 4, none⟩ = some (.int .i64 (fn z (k * 5 + 4))) := by rw [Lib.cell_of_heap gU]; rfl
          have hw1 : IntKind.i64.wrap (fn z (k * 5 + 2) + M) = fn z (k * 5 + 2) + M := by simp [IntKind.wrap, IntKind.bits, IntKind.signed]; omega
          clear hat o1 f1 fU gU bU
          go_wp2_with fail
          go_region_with (first
            | (go_at_call 55; refine (at_any f t d x1 (fn z (k * 5 + 2) + M) a1 k cp1 _).mono ?_; rintro e wA ⟨rfl, bA0⟩; have bA : Below U.heap.size U wA := ⟨bA0.os, bA0.tape, bA0.output, bA0.size, bA0.block⟩; clear bA0; have sA := bA.size; have gA : wA.heap[wr.heap.size]? = _ := (HGU.out wA bA).trans HGE.out; have z0 : wA.cell? ⟨wr.heap.size, 0, none⟩ = some (.int .i64 (fn z (k * 5))) := (by rw [Lib.cell_of_heap gA]; rfl); have z1 : wA.cell? ⟨wr.heap.size, 1, none⟩ = some (.int .i64 (fn z (k * 5 + 1))) := (by rw [Lib.cell_of_heap gA]; rfl); have z2 : wA.cell? ⟨wr.heap.size, 2, none⟩ = some (.int .i64 (fn z (k * 5 + 2))) := (by rw [Lib.cell_of_heap gA]; rfl); have z3 : wA.cell? ⟨wr.heap.size, 3, none⟩ = some (.int .i64 (fn z (k * 5 + 3))) := (by rw [Lib.cell_of_heap gA]; rfl); have z4 : wA.cell? ⟨wr.heap.size, 4, none⟩ = some (.int .i64 (fn z (k * 5 + 4))) := (by rw [Lib.cell_of_heap gA]; rfl); clear gA; have OA : Hid (OwnG wA (w7.heap.size + 1) (.slice a1 k cp1) k (mvL z k M)) := OwnG.below (w := U) HO1.out bA; have FA : Hid (Five wA w7.heap.size f t d (.slice a1 k cp1) x1) := (bA.block _ (Array.getElem?_eq_some_iff.1 HF1.out).1).trans HF1.out; have RA : Hid (Lies wA (w.heap.size + 1) 0 0 0 (.slice none 0 0)) := Lies.below (w := U) HRU.out bA; have BA : Hid (Below w.heap.size w wA) := bstep HBU.out bA; clear bA)
            | (go_at_call 56; refine (glyph_any f t d (fn z (k * 5 + 2) + M) (fn z (k * 5)) (fn z (k * 5 + 1)) (fn z (k * 5 + 2)) (fn z (k * 5 + 3)) (fn z (k * 5 + 4)) (.slice a1 k cp1) k (w7.heap.size + 1) (mvL z k M) wA OA.out (by omega) (by omega) (by omega) (by omega) hbd2.1 hbd2.2.1).mono ?_; rintro e wB ⟨⟨vB, rfl, oB⟩, gB⟩; obtain ⟨b4, cp4, rfl⟩ := OwnG.form1 oB; have FB : Five wB w7.heap.size f t d (.slice a1 k cp1) x1 := (gB.block _ (Array.getElem?_eq_some_iff.1 FA.out).1 (fun e => by have := (OwnG.lt OA.out _ e.symm).1; omega)).trans FA.out; have u0 := FB.c0; have u1 := FB.c1; have u2 := FB.c2; have u3 := FB.c3; have u4 := FB.c4; have v0 := FB.fz 0; have v1 := FB.fz 1; have v2 := FB.fz 2; have v3 := FB.fz 3; have v4 := FB.fz 4))
          all_goals (go_wp2_with fail)
          all_goals
            have hb4 := (oB.lt b4 (by simp [Value.ownBlock])).1
            have RB : Lies wB (w.heap.size + 1) 0 0 0 (.slice none 0 0) := Lies.grown (w := wA) RA.out gB (fun e => by have := (OwnG.lt OA.out _ e).1; omega)
            have BB : Below w.heap.size w wB := Below.grown BA.out gB (Below.size BA.out) (fun kk e => by have := (OwnG.lt OA.out _ e).1; omega)
            have hle1 : w.heap.size + 2 ≤ w7.heap.size := by omega
            rw [← mvL_succ] at oB
            refine ⟨⟨k + 1, by omega, by go_num, ⟨_, _, OwnG.kept oB (fun kk hk => ?_), Five.all FB⟩, ((((RB.far (by omega)).far (by omega)).far (by omega)).far (by omega)).far (by omega), ((((BB.setCell (by show w.heap.size ≤ w7.heap.size; omega) _).setCell (by show w.heap.size ≤ w7.heap.size; omega) _).setCell (by show w.heap.size ≤ w7.heap.size; omega) _).setCell (by show w.heap.size ≤ w7.heap.size; omega) _).setCell (by show w.heap.size ≤ w7.heap.size; omega) _⟩, by simp only [intOf]; omega⟩
            have e : kk ≠ w7.heap.size := by have := (oB.lt kk hk).1; omega
            rw [heap_setCell_other _ _ _ _ e, heap_setCell_other _ _ _ _ e, heap_setCell_other _ _ _ _ e, heap_setCell_other _ _ _ _ e, heap_setCell_other _ _ _ _ e]
      · have e : k = n := by omega
        subst e
        obtain ⟨a1, cp1, hv1⟩ : ∃ a1 cp1, v1 = .slice a1 k cp1 := by
          rcases o1.forms with ⟨rfl, rfl⟩ | ⟨g, c, rfl, _⟩
          · exact ⟨_, _, rfl⟩
          · exact ⟨_, _, rfl⟩
        subst hv1
        have y0 := f1.c0
        have y1 := f1.c1
        have y2 := f1.c2
        have y3 := f1.c3
        have r0 := Lies.c0 hr.out
        have r1 := Lies.c1 hr.out
        have r2 := Lies.c2 hr.out
        have r3 := Lies.c3 hr.out
        have p0 := Lies.fz hr.out 0
        have p1 := Lies.fz hr.out 1
        have p2 := Lies.fz hr.out 2
        have p3 := Lies.fz hr.out 3
        have HLF : Hid _ := Lies.four (f' := f) (t' := t) (d' := d) (v' := .slice a1 k cp1) hr.out
        have HO : Hid (OwnG wr (w7.heap.size + 1) (.slice a1 k cp1) k (mvL z k M)) := o1
        clear o1 f1
        go_wp2_with fail
        have e0 := Lies.c0 HLF.out
        have e1 := Lies.c1 HLF.out
        have e2 := Lies.c2 HLF.out
        have e3 := Lies.c3 HLF.out
        refine bodyPost_ret (v := .agg #[.int .i64 f, .int .i64 t, .int .i64 d, .slice a1 k cp1]) (by simp [results, Try.results22, go_sem, e0, e1, e2, e3]) rfl ⟨⟨.slice a1 k cp1, rfl, ?_⟩, ?_⟩
        · refine OwnG.mono (OwnG.kept HO.out (fun kk hk => ?_)) (by omega)
          have e : kk ≠ w.heap.size + 1 := by have := (OwnG.lt HO.out kk hk).1; omega
          rw [heap_setCell_other _ _ _ _ e, heap_setCell_other _ _ _ _ e, heap_setCell_other _ _ _ _ e, heap_setCell_other _ _ _ _ e]
        · exact (((Below.setCell hb.out (by show w.heap.size ≤ w.heap.size + 1; omega) _).setCell (by show w.heap.size ≤ w.heap.size + 1; omega) _).setCell (by show w.heap.size ≤ w.heap.size + 1; omega) _).setCell (by show w.heap.size ≤ w.heap.size + 1; omega) _
  · go_wp2_with fail
    refine (standOf_any 0 align _ _ (.inl rfl)).mono ?_
    rintro e w5 ⟨rfl, rfl⟩
    go_wp2_with fail
    refine (roomAhead_any 0 align _ _ (by omega) (by omega)).mono ?_
    rintro e w6 ⟨rfl, b6⟩
    rw [HMA.out hpos]
    have HL6 : Hid (Lies w6 w.heap.size f t d (.slice xu n zu)) := Lies.below (w := w5) HL3.out b6
    have HR6 : Hid (Lies w6 (w.heap.size + 1) 0 0 0 (.slice none 0 0)) := Lies.below (w := w5) HR3.out b6
    have HB6 : Hid (Below w.heap.size w w6) := bstep HB3.out b6
    have hs6 := b6.size
    clear b6 m0 m1 m2 m3 r0 r1 r2 r3 p0 p1 p2 p3 HL3 HR3 HB3
    have m0 := Lies.c0 HL6.out
    have m1 := Lies.c1 HL6.out
    have m2 := Lies.c2 HL6.out
    have m3 := Lies.c3 HL6.out
    go_wp2_with fail
    refine (lineLike_any f t d _ _).mono ?_
    rintro e w7 ⟨rfl, b7⟩
    have HL7 : Hid (Lies w7 w.heap.size f t d (.slice xu n zu)) := Lies.below (w := w6) HL6.out b7
    have HR7 : Hid (Lies w7 (w.heap.size + 1) 0 0 0 (.slice none 0 0)) := Lies.below (w := w6) HR6.out b7
    have HB7 : Hid (Below w.heap.size w w7) := bstep HB6.out b7
    have hs7 := b7.size
    clear b7 m0 m1 m2 m3 HL6 HR6 HB6
    have HL8 : Hid _ := Lies.alloc (w := w7) HL7.out (.cells #[.int .i64 f, .int .i64 t, .int .i64 d, .slice none 0 0, .int .i64 0] 78)
    have HR8 : Hid _ := Lies.alloc (w := w7) HR7.out (.cells #[.int .i64 f, .int .i64 t, .int .i64 d, .slice none 0 0, .int .i64 0] 78)
    have HB8 : Hid _ := bstep HB7.out (below_new w7 (.cells #[.int .i64 f, .int .i64 t, .int .i64 d, .slice none 0 0, .int .i64 0] 78))
    have HF8 : Hid (Five (w7.alloc (.cells #[.int .i64 f, .int .i64 t, .int .i64 d, .slice none 0 0, .int .i64 0] 78)) w7.heap.size f t d (.slice none 0 0) 0) := by
      show (w7.heap.push _)[w7.heap.size]? = _
      simp
    have m3 := Lies.c3 HL8.out
    go_wp2_with fail
    clear m3
    go_loopw [75] (fun i wr => ∃ k : Nat, k ≤ n ∧ i = .int .i64 k ∧ Hid (∃ v' x, OwnG wr (w7.heap.size + 1) v' k (mvL z k M) ∧ Five wr w7.heap.size f t d v' x) ∧ Hid (Lies wr (w.heap.size + 1) 0 0 0 (.slice none 0 0)) ∧ Hid (Below w.heap.size w wr)) (fun i _ => n - (intOf i).toNat)
    case atStart => exact ⟨0, Nat.zero_le _, rfl, ⟨_, _, OwnG.nil _ _, HF8.out⟩, HR8, HB8⟩
    case round =>
      obtain ⟨k, hk, rfl, hown, hr, hb⟩ := hrel
      clear HL7 HR7 HB7 HL8 HR8 HB8 HF8
      obtain ⟨v1, x1, o1, f1⟩ := hown.out
      have hPw : w7.heap.size < wr.heap.size := (Array.getElem?_eq_some_iff.1 f1).1
      by_cases hlt : k < n
      · rcases HU.out wr hb.out with ⟨a, c, e, h0⟩ | ⟨b, c, e, hbw, _, _, hat⟩
        · omega
        · cases e
          have c0 := hat (k * 5) (by omega)
          have c1 := hat (k * 5 + 1) (by omega)
          have c2 := hat (k * 5 + 2) (by omega)
          have c3 := hat (k * 5 + 3) (by omega)
          have c4 := hat (k * 5 + 4) (by omega)
          have hbd2 := hbd.out k hlt
          have hki : (k : Int) < (n : Int) := by omega
          obtain ⟨a1, cp1, hv1⟩ : ∃ a1 cp1, v1 = .slice a1 k cp1 := by
            rcases o1.forms with ⟨rfl, rfl⟩ | ⟨g, c, rfl, _⟩
            · exact ⟨_, _, rfl⟩
            · exact ⟨_, _, rfl⟩
          subst hv1
          obtain ⟨U, hU⟩ : ∃ U, wr.alloc (.cells #[.int .i64 (fn z (k * 5)), .int .i64 (fn z (k * 5 + 1)), .int .i64 (fn z (k * 5 + 2)), .int .i64 (fn z (k * 5 + 3)), .int .i64 (fn z (k * 5 + 4))] 31) = U := ⟨_, rfl⟩
          have bU : Below wr.heap.size wr U := by rw [← hU]; exact below_new _ _
          have sU : U.heap.size = wr.heap.size + 1 := by rw [← hU]; exact size_new _ _
          have gU : U.heap[wr.heap.size]? = some (.cells #[.int .i64 (fn z (k * 5)), .int .i64 (fn z (k * 5 + 1)), .int .i64 (fn z (k * 5 + 2)), .int .i64 (fn z (k * 5 + 3)), .int .i64 (fn z (k * 5 + 4))] 31 (0, 0)) := by
            rw [← hU]; show (wr.heap.push _)[wr.heap.size]? = _; simp
          have fU : Five U w7.heap.size f t d (.slice a1 k cp1) x1 := (bU.block _ hPw).trans f1
          have HO1 : Hid (OwnG U (w7.heap.size + 1) (.slice a1 k cp1) k (mvL z k M)) := o1.below bU
          have HF1 : Hid (Five U w7.heap.size f t d (.slice a1 k cp1) x1) := fU
          have HGU : Hid (∀ w', Below U.heap.size U w' → w'.heap[wr.heap.size]? = U.heap[wr.heap.size]?) := fun w' bb => bb.block _ (by rw [sU]; omega)
          have HGE : Hid _ := gU
          have HRU : Hid (Lies U (w.heap.size + 1) 0 0 0 (.slice none 0 0)) := Lies.below (w := wr) hr.out bU
          have HBU : Hid (Below w.heap.size w U) := bstep hb.out bU
          have y0 := fU.c0
          have y1 := fU.c1
          have y2 := fU.c2
          have y3 := fU.c3
          have y4 := fU.c4
          have x0 : U.cell? ⟨wr.heap.size, 0, none⟩ = some (.int .i64 (fn z (k * 5))) := by rw [Lib.cell_of_heap gU]; rfl
          have x1' : U.cell? ⟨wr.heap.size, 1, none⟩ = some (.int .i64 (fn z (k * 5 + 1))) := by rw [Lib.cell_of_heap gU]; rfl
          have x2 : U.cell? ⟨wr.heap.size, 2, none⟩ = some (.int .i64 (fn z (k * 5 + 2))) := by rw [Lib.cell_of_heap gU]; rfl
          have x3 : U.cell? ⟨wr.heap.size, 3, none⟩ = some (.int .i64 (fn z (k * 5 + 3))) := by rw [Lib.cell_of_heap gU]; rfl
          have x4 : U.cell? ⟨wr.heap.size, 4, none⟩ = some (.int .i64 (fn z (k * 5 + 4))) := by rw [Lib.cell_of_heap gU]; rfl
          have hw1 : IntKind.i64.wrap (fn z (k * 5 + 2) + M) = fn z (k * 5 + 2) + M := by simp [IntKind.wrap, IntKind.bits, IntKind.signed]; omega
          clear hat o1 f1 fU gU bU
          go_wp2_with fail
          go_region_with (first
            | (go_at_call 55; refine (at_any f t d x1 (fn z (k * 5 + 2) + M) a1 k cp1 _).mono ?_; rintro e wA ⟨rfl, bA0⟩; have bA : Below U.heap.size U wA := ⟨bA0.os, bA0.tape, bA0.output, bA0.size, bA0.block⟩; clear bA0; have sA := bA.size; have gA : wA.heap[wr.heap.size]? = _ := (HGU.out wA bA).trans HGE.out; have z0 : wA.cell? ⟨wr.heap.size, 0, none⟩ = some (.int .i64 (fn z (k * 5))) := (by rw [Lib.cell_of_heap gA]; rfl); have z1 : wA.cell? ⟨wr.heap.size, 1, none⟩ = some (.int .i64 (fn z (k * 5 + 1))) := (by rw [Lib.cell_of_heap gA]; rfl); have z2 : wA.cell? ⟨wr.heap.size, 2, none⟩ = some (.int .i64 (fn z (k * 5 + 2))) := (by rw [Lib.cell_of_heap gA]; rfl); have z3 : wA.cell? ⟨wr.heap.size, 3, none⟩ = some (.int .i64 (fn z (k * 5 + 3))) := (by rw [Lib.cell_of_heap gA]; rfl); have z4 : wA.cell? ⟨wr.heap.size, 4, none⟩ = some (.int .i64 (fn z (k * 5 + 4))) := (by rw [Lib.cell_of_heap gA]; rfl); clear gA; have OA : Hid (OwnG wA (w7.heap.size + 1) (.slice a1 k cp1) k (mvL z k M)) := OwnG.below (w := U) HO1.out bA; have FA : Hid (Five wA w7.heap.size f t d (.slice a1 k cp1) x1) := (bA.block _ (Array.getElem?_eq_some_iff.1 HF1.out).1).trans HF1.out; have RA : Hid (Lies wA (w.heap.size + 1) 0 0 0 (.slice none 0 0)) := Lies.below (w := U) HRU.out bA; have BA : Hid (Below w.heap.size w wA) := bstep HBU.out bA; clear bA)
            | (go_at_call 56; refine (glyph_any f t d (fn z (k * 5 + 2) + M) (fn z (k * 5)) (fn z (k * 5 + 1)) (fn z (k * 5 + 2)) (fn z (k * 5 + 3)) (fn z (k * 5 + 4)) (.slice a1 k cp1) k (w7.heap.size + 1) (mvL z k M) wA OA.out (by omega) (by omega) (by omega) (by omega) hbd2.1 hbd2.2.1).mono ?_; rintro e wB ⟨⟨vB, rfl, oB⟩, gB⟩; obtain ⟨b4, cp4, rfl⟩ := OwnG.form1 oB; have FB : Five wB w7.heap.size f t d (.slice a1 k cp1) x1 := (gB.block _ (Array.getElem?_eq_some_iff.1 FA.out).1 (fun e => by have := (OwnG.lt OA.out _ e.symm).1; omega)).trans FA.out; have u0 := FB.c0; have u1 := FB.c1; have u2 := FB.c2; have u3 := FB.c3; have u4 := FB.c4; have v0 := FB.fz 0; have v1 := FB.fz 1; have v2 := FB.fz 2; have v3 := FB.fz 3; have v4 := FB.fz 4))
          all_goals (go_wp2_with fail)
          all_goals
            have hb4 := (oB.lt b4 (by simp [Value.ownBlock])).1
            have RB : Lies wB (w.heap.size + 1) 0 0 0 (.slice none 0 0) := Lies.grown (w := wA) RA.out gB (fun e => by have := (OwnG.lt OA.out _ e).1; omega)
            have BB : Below w.heap.size w wB := Below.grown BA.out gB (Below.size BA.out) (fun kk e => by have := (OwnG.lt OA.out _ e).1; omega)
            have hle1 : w.heap.size + 2 ≤ w7.heap.size := by omega
            rw [← mvL_succ] at oB
            refine ⟨⟨k + 1, by omega, by go_num, ⟨_, _, OwnG.kept oB (fun kk hk => ?_), Five.all FB⟩, ((((RB.far (by omega)).far (by omega)).far (by omega)).far (by omega)).far (by omega), ((((BB.setCell (by show w.heap.size ≤ w7.heap.size; omega) _).setCell (by show w.heap.size ≤ w7.heap.size; omega) _).setCell (by show w.heap.size ≤ w7.heap.size; omega) _).setCell (by show w.heap.size ≤ w7.heap.size; omega) _).setCell (by show w.heap.size ≤ w7.heap.size; omega) _⟩, by simp only [intOf]; omega⟩
            have e : kk ≠ w7.heap.size := by have := (oB.lt kk hk).1; omega
            rw [heap_setCell_other _ _ _ _ e, heap_setCell_other _ _ _ _ e, heap_setCell_other _ _ _ _ e, heap_setCell_other _ _ _ _ e, heap_setCell_other _ _ _ _ e]
      · have e : k = n := by omega
        subst e
        obtain ⟨a1, cp1, hv1⟩ : ∃ a1 cp1, v1 = .slice a1 k cp1 := by
          rcases o1.forms with ⟨rfl, rfl⟩ | ⟨g, c, rfl, _⟩
          · exact ⟨_, _, rfl⟩
          · exact ⟨_, _, rfl⟩
        subst hv1
        have y0 := f1.c0
        have y1 := f1.c1
        have y2 := f1.c2
        have y3 := f1.c3
        have r0 := Lies.c0 hr.out
        have r1 := Lies.c1 hr.out
        have r2 := Lies.c2 hr.out
        have r3 := Lies.c3 hr.out
        have p0 := Lies.fz hr.out 0
        have p1 := Lies.fz hr.out 1
        have p2 := Lies.fz hr.out 2
        have p3 := Lies.fz hr.out 3
        have HLF : Hid _ := Lies.four (f' := f) (t' := t) (d' := d) (v' := .slice a1 k cp1) hr.out
        have HO : Hid (OwnG wr (w7.heap.size + 1) (.slice a1 k cp1) k (mvL z k M)) := o1
        clear o1 f1
        go_wp2_with fail
        have e0 := Lies.c0 HLF.out
        have e1 := Lies.c1 HLF.out
        have e2 := Lies.c2 HLF.out
        have e3 := Lies.c3 HLF.out
        refine bodyPost_ret (v := .agg #[.int .i64 f, .int .i64 t, .int .i64 d, .slice a1 k cp1]) (by simp [results, Try.results22, go_sem, e0, e1, e2, e3]) rfl ⟨⟨.slice a1 k cp1, rfl, ?_⟩, ?_⟩
        · refine OwnG.mono (OwnG.kept HO.out (fun kk hk => ?_)) (by omega)
          have e : kk ≠ w.heap.size + 1 := by have := (OwnG.lt HO.out kk hk).1; omega
          rw [heap_setCell_other _ _ _ _ e, heap_setCell_other _ _ _ _ e, heap_setCell_other _ _ _ _ e, heap_setCell_other _ _ _ _ e]
        · exact (((Below.setCell hb.out (by show w.heap.size ≤ w.heap.size + 1; omega) _).setCell (by show w.heap.size ≤ w.heap.size + 1; omega) _).setCell (by show w.heap.size ≤ w.heap.size + 1; omega) _).setCell (by show w.heap.size ≤ w.heap.size + 1; omega) _
end Go.Proofs.Ytgjhhfmhaalcnaa
