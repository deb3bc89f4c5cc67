import Derived.Test.YtobmdefklgkoiaaSpPS
import Derived.RangeFuncRecord
namespace Go.Proofs.Ytobmdefklgkoiaa
open Go.ChangeShapes Go.WideShapes Go.ChangeAt Go.RowKit
set_option linter.unusedSimpArgs false
set_option linter.unusedVariables false

theorem flatP_set (x : List (Int × Int)) (i : Nat) (s m : Int) : ((flatP x).set (i * 2) s).set (i * 2 + 1) m = flatP (x.set i (s, m)) := by
  induction x generalizing i with
  | nil => simp [flatP]
  | cons a r ih =>
    obtain ⟨c, d⟩ := a
    cases i with
    | zero => simp [flatP]
    | succ i =>
      rw [show (i + 1) * 2 = i * 2 + 1 + 1 by omega]
      simp only [flatP, List.set_cons_succ]
      rw [ih]
theorem OwnK.nz {w : World} {v : Value} {l : List Int} {B n : Nat} (h : OwnK w B v n l) : ∃ a cap, v = .slice a n cap := by
  rcases h.forms with ⟨rfl, rfl⟩ | ⟨g, cap, rfl, _⟩
  · exact ⟨none, 0, rfl⟩
  · exact ⟨_, cap, rfl⟩
theorem OwnS.nz {w : World} {v : Value} {l : List Int} {B n : Nat} (h : OwnS w B v n l) : ∃ a cap, v = .slice a n cap := by
  rcases h.forms with ⟨rfl, rfl⟩ | ⟨g, cap, rfl, _⟩
  · exact ⟨none, 0, rfl⟩
  · exact ⟨_, cap, rfl⟩
/-- A span in the block of a parameter. -/
def BoxP (w : World) (G : Nat) (f t s m : Int) : Prop := w.heap[G]? = some (.cells #[.int .i64 f, .int .i64 t, .int .i64 s, .int .i64 m] 32 (0, 0))
theorem BoxP.cells {w : World} {G : Nat} {f t s m : Int} (h : BoxP w G f t s m) : w.cell? ⟨G, 0, none⟩ = some (.int .i64 f) ∧ w.cell? ⟨G, 1, none⟩ = some (.int .i64 t) ∧ w.cell? ⟨G, 2, none⟩ = some (.int .i64 s) ∧ w.cell? ⟨G, 3, none⟩ = some (.int .i64 m) := by
  refine ⟨?_, ?_, ?_, ?_⟩ <;> simp [World.cell?, BoxP] at h ⊢ <;> simp [h]
theorem BoxP.below {w w' : World} {G : Nat} {f t s m : Int} (h : BoxP w G f t s m) (hb : Below w.heap.size w w') : BoxP w' G f t s m := (hb.block G (Array.getElem?_eq_some_iff.1 h).1).trans h
theorem BoxP.belowB {w w' : World} {G B : Nat} {f t s m : Int} (h : BoxP w G f t s m) (hb : Below B w w') (hG : G < B) : BoxP w' G f t s m := (hb.block G hG).trans h

set_option maxHeartbeats 400000 in
theorem specPutS (v : Value) (n : Nat) (l : List Int) (c f t s m : Int) (w : World) (hv : ArgS w v n l) (hbig : n ≤ 1048576) :
    Calls Try.prog 18 #[v, .int .i64 c, .agg #[.int .i64 f, .int .i64 t, .int .i64 s, .int .i64 m]] w fun e w' => (∃ v', e = .returned (.tuple #[v', .bool (putB (fn l) n c f t s m)]) ∧ OwnS w' w.heap.size v' (spQ 0 (putS (fn l) n c f t s m)).length (spR 0 (putS (fn l) n c f t s m))) ∧ Below w.heap.size w w' := by
  have HV : Hid (∀ w', Below w.heap.size w w' → ArgS w' v n l) := fun w' b => hv.below b
  clear hv
  have bx := below_new w (.cells #[.int .i64 f, .int .i64 t, .int .i64 s, .int .i64 m] 32)
  obtain ⟨G, hG⟩ : ∃ G, w.heap.size = G := ⟨_, rfl⟩
  have hb0 : BoxP (w.alloc (.cells #[.int .i64 f, .int .i64 t, .int .i64 s, .int .i64 m] 32)) G f t s m := by rw [← hG]; exact World.alloc_heap_new w _
  have HB0 : Hid (BoxP (w.alloc (.cells #[.int .i64 f, .int .i64 t, .int .i64 s, .int .i64 m] 32)) G f t s m) := hb0
  have HGE : Hid (w.heap.size = G) := hG
  clear hb0
  by_cases hok : spansOk (fn l) n c = true
  · have HO : Hid _ := hok
    have hc80 := (spansOk_out hok).1
    have hen := endsOk_of hok
    obtain ⟨C, rfl⟩ : ∃ C : Nat, c = (C : Int) := ⟨c.toNat, by omega⟩
    have HC : Hid (C ≤ 80 ∧ n ≤ 12) := ⟨by omega, by omega⟩
    have HEN : Hid (endsOk (fn l) n) := hen
    by_cases hsp : spOk (C : Int) f t s m = true
    · have HS : Hid _ := hsp
      obtain ⟨q1, q2, q3, q4, q5, q6, q7, q8⟩ := spOk_parts hsp
      obtain ⟨F, rfl⟩ : ∃ F : Nat, f = (F : Int) := ⟨f.toNat, by omega⟩
      obtain ⟨T, rfl⟩ : ∃ T : Nat, t = (T : Int) := ⟨t.toNat, by omega⟩
      have HQ : Hid (F < C ∧ F < T ∧ T ≤ C) := ⟨by omega, by omega, by omega⟩
      have hpr : putR (fn l) n (C : Int) (F : Int) (T : Int) s m = rleR (setLk (looksS (fn l) n C) (s, m) F (T - F)) := by
        have := put_same hok (lk := (s, m)) (f := F) (t := T) (by omega) (by omega)
        rw [Int.toNat_natCast] at this
        rw [this]; unfold putR; simp
      have HPR : Hid _ := hpr
      clear hok hsp hpr hen hc80 q1 q2 q3 q4 q5 q6 q7 q8
      go_enter Try.func18, Try.ntmps18
      go_wp2_with fail
      refine (specSpansOk v n l (C : Int) _ (HV.out _ bx) hbig).mono ?_
      rintro e w1 ⟨rfl, b1⟩
      rw [HO.out]
      have B1 := bstep bx b1
      have h1 : BoxP w1 G (F : Int) (T : Int) s m := BoxP.below HB0.out b1
      obtain ⟨g0, g1, g2, g3⟩ := h1.cells
      go_wp2_with fail
      refine (specSpOk _ _ _ _ _ w1 (by omega) (by have := HC.out; omega)).mono ?_
      rintro e w2 ⟨rfl, b2⟩
      rw [HS.out]
      have B2 := bstep B1 b2
      have h2 : BoxP w2 G (F : Int) (T : Int) s m := h1.below b2
      clear g0 g1 g2 g3 h1 b1 b2 B1 bx
      go_wp2_with fail
      refine (specLooks v n l C w2 (HV.out _ B2) HC.out.2 HC.out.1 HEN).mono ?_
      rintro e w3 ⟨v3, rfl, o3, b3, gg, cg, rfl⟩
      have B3 := bstep B2 b3
      have h3 : BoxP w3 G (F : Int) (T : Int) s m := h2.below b3
      have hGl : G < w2.heap.size := (Array.getElem?_eq_some_iff.1 h2).1
      have hgl := o3.lt gg rfl
      have HGG : Hid (G < w2.heap.size ∧ w2.heap.size ≤ gg) := ⟨hGl, hgl.1⟩
      have HB2 : Hid (Below w.heap.size w w2) := B2
      have HB3 : Hid (Below w2.heap.size w2 w3) := b3
      have HH3 : Hid (BoxP w3 G (F : Int) (T : Int) s m) := h3
      have HO3 : Hid (OwnK w3 w2.heap.size (.slice (some ⟨gg, 0, none⟩) C cg) C (flatP (looksS (fn l) n C))) := o3
      obtain ⟨g0, g1, g2, g3⟩ := h3.cells
      clear b3 o3 h2 h3 B3 hgl hGl B2
      go_wp2_with fail
      clear g0 g1 g2 g3
      go_loopw [9] (fun i wr => ∃ (j : Nat), F + j ≤ T ∧ i = .int .i64 ((F : Int) + (j : Int)) ∧ OwnK wr w2.heap.size (.slice (some ⟨gg, 0, none⟩) C cg) C (flatP (setLk (looksS (fn l) n C) (s, m) F j)) ∧ Below w2.heap.size w2 wr) (fun i _ => T - (intOf i).toNat)
      case atStart => exact ⟨0, by have := HQ.out; omega, by simp, HO3.out, HB3.out⟩
      case round =>
        obtain ⟨j, hj, rfl, hown, hbel⟩ := hrel
        obtain ⟨K, hK⟩ : ∃ K : Nat, F + j = K := ⟨_, rfl⟩
        have hKi : (F : Int) + (j : Int) = (K : Int) := by omega
        rw [hKi]
        have hbox : BoxP wr G (F : Int) (T : Int) s m := BoxP.belowB ((HB3.out.block G HGG.out.1).symm.trans HH3.out) hbel HGG.out.1
        obtain ⟨g0, g1, g2, g3⟩ := hbox.cells
        by_cases hlt : K < T
        · have hKT : (K : Int) < (T : Int) := by omega
          have hKC : (K : Int) < (C : Int) := by have := HQ.out; omega
          have hC8 : (C : Int) ≤ 80 := by have := HC.out; omega
          have HM : Hid (T - (K + 1) < T - K) := by show _ < _; omega
          have f0 := hown.frozen (K * 2)
          have f1 := hown.frozen (K * 2 + 1)
          have c0 := hown.cell (K * 2) (by omega)
          have c1 := hown.cell (K * 2 + 1) (by omega)
          have HOW : Hid (OwnK wr w2.heap.size (.slice (some ⟨gg, 0, none⟩) C cg) C (flatP (setLk (looksS (fn l) n C) (s, m) F j))) := hown
          have HBE : Hid (Below w2.heap.size w2 wr) := hbel
          have HKK : Hid (F + j = K ∧ F + (j + 1) ≤ T ∧ (K : Int) + 1 = (F : Int) + ((j + 1 : Nat) : Int)) := ⟨hK, by omega, by omega⟩
          clear hown hbel hK hKi hbox
          go_wp2_with fail
          refine ⟨⟨j + 1, HKK.out.2.1, by rw [HKK.out.2.2], ?_, ?_⟩, by simp only [intOf]; have := HM.out; omega⟩
          · have o5 := OwnK.stored (OwnK.stored HOW.out (K * 2) s) (K * 2 + 1) m
            rw [flatP_set] at o5
            have e : (setLk (looksS (fn l) n C) (s, m) F j).set K (s, m) = setLk (looksS (fn l) n C) (s, m) F (j + 1) := by simp only [setLk]; rw [HKK.out.1]
            rw [e] at o5
            exact o5
          · exact (HBE.out.setCell (p := ⟨gg, K * 2, none⟩) HGG.out.2 _).setCell (p := ⟨gg, K * 2 + 1, none⟩) HGG.out.2 _
        · have hKT : ¬ (K : Int) < (T : Int) := by omega
          have hjT : j = T - F := by omega
          subst hjT
          have HOW : Hid (OwnK wr w2.heap.size (.slice (some ⟨gg, 0, none⟩) C cg) C (flatP (setLk (looksS (fn l) n C) (s, m) F (T - F)))) := hown
          have HBE : Hid (Below w.heap.size w wr) := HB2.out.trans (hbel.mono HB2.out.size)
          have hl : (setLk (looksS (fn l) n C) (s, m) F (T - F)).length = C := by rw [setLk_len, looksS_len]
          have HLE : Hid ((setLk (looksS (fn l) n C) (s, m) F (T - F)).length = C) := hl
          clear hown hbel hK hKi hbox hl hj
          go_wp2_with fail
          refine (specSpans _ (setLk (looksS (fn l) n C) (s, m) F (T - F)) w2.heap.size wr (by rw [HLE.out]; exact HOW.out) (by rw [HLE.out]; have := HC.out; omega)).mono ?_
          rintro e w5 ⟨v5, rfl, o5, b5⟩
          rw [← HPR.out] at o5
          have o5' := o5.mono HBE.out.size
          have B5 := bstep HBE.out b5
          obtain ⟨L, hL⟩ : ∃ L, (spQ 0 (putR (fn l) n (C : Int) (F : Int) (T : Int) s m)).length = L := ⟨_, rfl⟩
          rw [hL] at o5'
          obtain ⟨a5, c5, rfl⟩ := OwnS.nz o5'
          have HO5 : Hid (OwnS w5 w.heap.size (.slice a5 L c5) L (spR 0 (putR (fn l) n (C : Int) (F : Int) (T : Int) s m))) := o5'
          have HB5 : Hid (Below w.heap.size w w5) := B5
          clear o5 b5 o5' B5 g0 g1 g2 g3
          by_cases h12 : L ≤ 12
          · have hLi : ¬ ((12 : Int) < (L : Int)) := by omega
            have hb : putB (fn l) n (C : Int) (F : Int) (T : Int) s m = true := by unfold putB; rw [HO.out, HS.out, hL]; simp; exact h12
            have hs : putS (fn l) n (C : Int) (F : Int) (T : Int) s m = putR (fn l) n (C : Int) (F : Int) (T : Int) s m := by unfold putS; rw [if_pos hb]
            have HBB : Hid _ := hb
            have HSS : Hid _ := hs
            have HLL : Hid _ := hL
            clear hb hs hL
            go_wp2_with fail
            go_ret2
            rw [HBB.out, HSS.out, HLL.out]
            exact ⟨⟨_, rfl, HO5.out⟩, HB5.out⟩
          · have hLi : (12 : Int) < (L : Int) := by omega
            have hb : putB (fn l) n (C : Int) (F : Int) (T : Int) s m = false := by unfold putB; rw [hL]; simp; intro _ _; omega
            have hs : putS (fn l) n (C : Int) (F : Int) (T : Int) s m = [] := by unfold putS; rw [hb]; simp
            have HBB : Hid _ := hb
            have HSS : Hid _ := hs
            clear hb hs hL
            go_wp2_with fail
            go_ret2
            rw [HBB.out, HSS.out]
            exact ⟨⟨_, rfl, (emp_own w5).mono HB5.out.size⟩, bstep HB5.out (below_new _ _)⟩
    · have hno : spOk (C : Int) f t s m = false := by simpa using hsp
      have HS : Hid _ := hno
      have hb : putB (fn l) n (C : Int) f t s m = false := by unfold putB; rw [hno]; simp
      have hs : putS (fn l) n (C : Int) f t s m = [] := by unfold putS; rw [hb]; simp
      have HBB : Hid _ := hb
      have HSS : Hid _ := hs
      clear hok hsp hno hb hs hen hc80
      go_enter Try.func18, Try.ntmps18
      go_wp2_with fail
      refine (specSpansOk v n l (C : Int) _ (HV.out _ bx) hbig).mono ?_
      rintro e w1 ⟨rfl, b1⟩
      rw [HO.out]
      have B1 := bstep bx b1
      obtain ⟨g0, g1, g2, g3⟩ := BoxP.cells (BoxP.below HB0.out b1)
      go_wp2_with fail
      refine (specSpOk _ _ _ _ _ w1 (by omega) (by have := HC.out; omega)).mono ?_
      rintro e w2 ⟨rfl, b2⟩
      rw [HS.out]
      go_wp2_with fail
      go_ret2
      rw [HBB.out, HSS.out]
      have B2 := bstep B1 b2
      exact ⟨⟨_, rfl, (emp_own w2).mono B2.size⟩, bstep B2 (below_new _ _)⟩
  · have hno : spansOk (fn l) n c = false := by simpa using hok
    have HO : Hid _ := hno
    have hb : putB (fn l) n c f t s m = false := by unfold putB; rw [hno]; simp
    have hs : putS (fn l) n c f t s m = [] := by unfold putS; rw [hb]; simp
    have HBB : Hid _ := hb
    have HSS : Hid _ := hs
    clear hok hno hb hs
    go_enter Try.func18, Try.ntmps18
    go_wp2_with fail
    refine (specSpansOk v n l c _ (HV.out _ bx) hbig).mono ?_
    rintro e w1 ⟨rfl, b1⟩
    rw [HO.out]
    go_wp2_with fail
    go_ret2
    rw [HBB.out, HSS.out]
    have B1 := bstep bx b1
    exact ⟨⟨_, rfl, (emp_own w1).mono B1.size⟩, bstep B1 (below_new _ _)⟩
end Go.Proofs.Ytobmdefklgkoiaa
