import Derived.Test.YtobmdefklgkoiaaSpCo2
import Derived.Test.YtobmdefklgkoiaaSpanOk
import Derived.Deep.RegionHeld3
namespace Go.Proofs.Ytobmdefklgkoiaa
open Go.ChangeShapes Go.WideShapes Go.ChangeAt Go.RowKit Go.Shelf
set_option linter.unusedSimpArgs false
set_option linter.unusedVariables false

theorem put_cnt {O : Runs} {lk : Int × Int} {f t c : Nat} : cntR (putRuns O lk f t c) ≤ 2 * cntR O + (t - f) := by
  unfold putRuns
  have h1 := part_cnt O 0 (withR (partR 0 [] O 0 f) lk (t - f)) t c
  have h2 := part_cnt O 0 [] 0 f
  rw [cnt_with] at h1
  simp only [cntR] at h2
  omega
theorem part4 (B : Nat) (v u : Value) (R O : Runs) (f t : Nat) (G : Nat) (gf gt gs gm : Int) (w : World) (h : OwnL w B v R.length (flatL R)) (hu : ArgK w u O) (hap : ∀ b cap, u = .slice (some ⟨b, 0, none⟩) O.length cap → b < B) (hB : B ≤ w.heap.size) (hl : R.length + O.length ≤ 900) (hc : cntR R + cntR O ≤ 1000000) (hf : f ≤ 1000) (ht : t ≤ 1000) (hG : G < B) (h4 : At4 w G gf gt gs gm) :
    Calls Try.prog 40 #[v, u, .int .i64 (f : Int), .int .i64 (t : Int)] w fun e w' => ∃ v', e = .returned v' ∧ OwnL w' B v' (partR 0 R O f t).length (flatL (partR 0 R O f t)) ∧ Below B w w' ∧ At4 w' G gf gt gs gm :=
  (part_is B v u R O f t w h hu hap hB hl hc hf ht).mono fun _ w' ⟨v', h1, h2, h3⟩ => ⟨v', h1, h2, h3, (h3.cell (p := ⟨G, 0, none⟩) hG).trans h4.1, (h3.cell (p := ⟨G, 1, none⟩) hG).trans h4.2.1, (h3.cell (p := ⟨G, 2, none⟩) hG).trans h4.2.2.1, (h3.cell (p := ⟨G, 3, none⟩) hG).trans h4.2.2.2.1, (h3.block G hG).trans h4.2.2.2.2⟩
theorem ArgK.belowB {w w' : World} {v : Value} {R : Runs} {B : Nat} (h : ArgK w v R) (hb : Below B w w') (hap : ∀ b cap, v = .slice (some ⟨b, 0, none⟩) R.length cap → b < B) : ArgK w' v R := by
  rcases h with h | ⟨b, cap, rfl, h1, h2, h3, h4⟩
  · exact .inl h
  · exact .inr ⟨b, cap, rfl, Nat.lt_of_lt_of_le h1 hb.size, h2, h3, fun j hj => (hb.cell (p := ⟨b, j, none⟩) (hap b cap rfl)).trans (h4 j hj)⟩

theorem OwnS.sliceF {w : World} {v : Value} {l : List Int} {B n : Nat} (h : OwnS w B v n l) : ∃ a cap, v = .slice a n cap := by
  rcases h.forms with ⟨rfl, rfl⟩ | ⟨g, cap, rfl, _⟩
  · exact ⟨none, 0, rfl⟩
  · exact ⟨_, cap, rfl⟩
theorem part4d (u : World) (v : Value) (O : Runs) (f : Nat) (G : Nat) (gf gt gs gm : Int) (hu : ArgK u v O) (hap : ∀ b cap, v = .slice (some ⟨b, 0, none⟩) O.length cap → b < u.heap.size) (hl : O.length ≤ 900) (hc : cntR O ≤ 1000000) (hf : f ≤ 1000) (hG : G < u.heap.size) (h4 : At4 u G gf gt gs gm) :
    Calls Try.prog 40 #[.slice none 0 0, v, .int .i64 0, .int .i64 (f : Int)] u.drew fun e w' => ∃ v', e = .returned v' ∧ OwnL w' u.heap.size v' (partR 0 [] O 0 f).length (flatL (partR 0 [] O 0 f)) ∧ Below u.heap.size u w' ∧ At4 w' G gf gt gs gm :=
  (part4 u.heap.size (.slice none 0 0) v [] O 0 f G gf gt gs gm u.drew (OwnL.nil _ _) (hu.belowB ((Below.refl u.heap.size u).drew) hap) hap (Nat.le_refl _) (by simpa using hl) (by simpa [cntR] using hc) (by omega) hf hG h4).mono fun _ w' ⟨v', h1, h2, h3, h4⟩ => ⟨v', h1, h2, ((Below.refl u.heap.size u).drew).trans h3, h4⟩

set_option maxHeartbeats 4000000 in
theorem implPut (v : Value) (n : Nat) (l : List Int) (c f t s m : Int) (w : World) (hv : ArgS w v n l) :
    Calls Try.prog 17 #[v, .int .i64 c, .agg #[.int .i64 f, .int .i64 t, .int .i64 s, .int .i64 m]] w fun e w' => (∃ v', e = .returned (.tuple #[v', .bool (putB (fn l) n c f t s m)]) ∧ OwnS w' w.heap.size v' (spQ 0 (putS (fn l) n c f t s m)).length (spR 0 (putS (fn l) n c f t s m))) ∧ Below w.heap.size w w' := by
  have HV : Hid (∀ w', Below w.heap.size w w' → ArgS w' v n l) := fun w' b => hv.below b
  clear hv
  have bx := below_new w (.cells #[.int .i64 f, .int .i64 t, .int .i64 s, .int .i64 m] 32)
  by_cases hok : spansOk (fn l) n c = true
  · by_cases hsp : spOk c f t s m = true
    · have HO : Hid _ := hok
      have HS : Hid _ := hsp
      obtain ⟨q1, q2, q3, q4, q5, q6, q7, q8⟩ := spOk_parts hsp
      have hc80 := (spansOk_out hok).1
      obtain ⟨F, rfl⟩ : ∃ F : Nat, f = (F : Int) := ⟨f.toNat, by omega⟩
      obtain ⟨T, rfl⟩ : ∃ T : Nat, t = (T : Int) := ⟨t.toNat, by omega⟩
      obtain ⟨C, rfl⟩ : ∃ C : Nat, c = (C : Int) := ⟨c.toNat, by omega⟩
      have HQ : Hid (F < C ∧ F < T ∧ T ≤ C ∧ C ≤ 80) := ⟨by omega, by omega, by omega, by omega⟩
      obtain ⟨O, hO⟩ : ∃ O, looksR (fn l) n (C : Int) = O := ⟨_, rfl⟩
      have hsh := looks_short hok
      rw [hO] at hsh
      have HSH : Hid _ := hsh
      have hpr : putR (fn l) n (C : Int) (F : Int) (T : Int) s m = putRuns O (s, m) F T C := by unfold putR; rw [hO]; simp
      have HPR : Hid _ := hpr
      have HOO : Hid _ := hO
      clear hok hsp hsh hpr hO hc80 q1 q2 q4 q5 q6 q7 q8
      go_enter Try.func17, Try.ntmps17
      go_wp2_with fail
      refine (implSpansOk v n l (C : Int) _ (HV.out _ bx)).mono ?_
      rintro e w1 ⟨rfl, b1⟩
      rw [HO.out]
      obtain ⟨G, hG⟩ : ∃ G, w.heap.size = G := ⟨_, rfl⟩
      have h4a : At4 (w.alloc (.cells #[.int .i64 (F : Int), .int .i64 (T : Int), .int .i64 s, .int .i64 m] 32)) G (F : Int) (T : Int) s m := by rw [← hG]; exact ⟨by simp, by simp, by simp, by simp, World.alloc_heap_new w _⟩
      have h41 : At4 w1 G (F : Int) (T : Int) s m := h4a.below (by rw [← hG]; simp) b1
      have B1 := bstep bx b1
      have hG1 : G < w1.heap.size := by rw [← hG]; have := b1.size; simp at this; omega
      have H41 : Hid _ := h41
      obtain ⟨g0, g1, g2, g3, _⟩ := h41
      have HB1 : Hid (Below w.heap.size w w1) := B1
      rw [hG]
      clear b1 B1 h4a bx
      go_wp2_with fail
      refine (implSpOk _ _ _ _ _ w1).mono ?_
      rintro e w2 ⟨rfl, b2⟩
      rw [HS.out]
      have h42 : At4 w2 G (F : Int) (T : Int) s m := At4.below H41.out hG1 b2
      have B2 := bstep HB1.out b2
      clear g0 g1 g2 g3
      go_wp2_with fail
      refine (looksOf_is v n l (C : Int) w2 (HV.out _ B2) HO.out).mono ?_
      rintro e w3 ⟨v3, rfl, o3, b3⟩
      rw [HOO.out] at o3
      have h43 : At4 w3 G (F : Int) (T : Int) s m := h42.below (Nat.lt_of_lt_of_le hG1 b2.size) b3
      have hG3 : G < w3.heap.size := Nat.lt_of_lt_of_le (Nat.lt_of_lt_of_le hG1 b2.size) b3.size
      have B3 := bstep B2 b3
      have HA : Hid (ArgK w3 v3 O) := o3.argK
      have HAP : Hid (∀ b cap, v3 = .slice (some ⟨b, 0, none⟩) O.length cap → b < w3.heap.size) := fun b cap e => (o3.lt b (by rw [e]; rfl)).2
      have H43 : Hid _ := h43
      have HB3 : Hid (Below w.heap.size w w3) := B3
      have HG3 : Hid (G < w3.heap.size) := hG3
      obtain ⟨g0, g1, g2, g3, _⟩ := h43
      have hQ := HQ.out
      have wr1 : IntKind.i64.wrap ((T : Int) - (F : Int)) = (T : Int) - (F : Int) := by simp [IntKind.wrap, IntKind.bits, IntKind.signed]; omega
      clear b2 b3 o3 B2 B3 h42 hG1 hG3 hQ
      go_wp2_with fail
      go_region_held3 (fun w' => w'.cell? ⟨G, 0, none⟩ = some (.int .i64 (F : Int)) ∧ w'.cell? ⟨G, 1, none⟩ = some (.int .i64 (T : Int)) ∧ w'.cell? ⟨G, 2, none⟩ = some (.int .i64 s) ∧ w'.cell? ⟨G, 3, none⟩ = some (.int .i64 m)) (go_keep) (first
        | (go_at_call 40; refine (part4 w3.heap.size _ v3 (withR (partR 0 [] O 0 F) (s, m) (T - F)) O T C G _ _ _ _ _ o7 ((ArgK.belowB HA.out bb6 HAP.out)) HAP.out bb6.size (by have := HSH.out; have := part_len O 0 [] 0 F; have := with_len (partR 0 [] O 0 F) (s, m) (T - F); simp at *; omega) (by have := HSH.out; have := part_cnt O 0 [] 0 F; have := HQ.out; rw [cnt_with]; simp only [cntR] at *; omega) (by have := HQ.out; omega) (by have := HQ.out; omega) HG3.out (.intro k70 (.intro k71 (.intro k72 (.intro k73 k74))))).mono ?_; rintro e w8 ⟨v8, rfl, o8, b8, k80, k81, k82, k83, k84⟩)
        | (go_at_call 41; refine (with4 w3.heap.size _ (partR 0 [] O 0 F) s m _ (T - F) G _ _ _ _ _ (by omega) (OwnL.bel o5 b6) (Nat.le_trans b5.size b6.size) (by have := HSH.out; have := part_len O 0 [] 0 F; simp at *; omega) (by have := HSH.out; have := part_cnt O 0 [] 0 F; simp only [cntR] at *; omega) (by have := HQ.out; omega) (Nat.lt_of_lt_of_le HG3.out (Nat.le_trans b5.size b6.size)) (.intro k60 (.intro k61 (.intro k62 (.intro k63 k64)))) (At4.ne (.intro k60 (.intro k61 (.intro k62 (.intro k63 k64)))) (OwnL.bel o5 b6))).mono ?_; rintro e w7 ⟨v7, rfl, o7, r7, k70, k71, k72, k73, k74⟩; have bb6 := (b5.trans (b6.mono b5.size)).grown r7 (Nat.le_trans b5.size b6.size) (fun q hq => ((OwnL.bel o5 b6).lt q hq).1))
        | (go_at_call 42; refine (look4 _ _ _ _ G _ _ _ _ _ (Nat.lt_of_lt_of_le HG3.out b5.size) (.intro k50 (.intro k51 (.intro k52 (.intro k53 k54))))).mono ?_; rintro e w6 ⟨rfl, b6, k60, k61, k62, k63, k64⟩)
        | (go_at_call 40; refine (part4d w3 v3 O F G _ _ _ _ HA.out HAP.out (by have := HSH.out; omega) (by have := HSH.out; omega) (by have := HQ.out; omega) HG3.out H43.out).mono ?_; rintro e w5 ⟨v5, rfl, o5, b5, k50, k51, k52, k53, k54⟩))
      have bb8 := bb6.trans b8
      obtain ⟨P, hP⟩ : ∃ P, partR 0 (withR (partR 0 [] O 0 F) (s, m) (T - F)) O T C = P := ⟨_, rfl⟩
      have HPP : Hid (putR (fn l) n (C : Int) (F : Int) (T : Int) s m = P) := by show _ = _; rw [HPR.out, ← hP]; rfl
      rw [hP] at o8
      have hPs : P.length ≤ 1000 ∧ cntR P ≤ 1000000 := by
        have h1 := put_cnt (O := O) (lk := (s, m)) (f := F) (t := T) (c := C)
        have h2 : normR P := by rw [← hP]; exact norm_put O (s, m) F T C
        have h3 := norm_le h2
        have h4 : P = putRuns O (s, m) F T C := by rw [← hP]; rfl
        have := HSH.out
        have := HQ.out
        rw [h4] at h3 ⊢
        omega
      have HPS : Hid _ := hPs
      have HB8 : Hid (Below w.heap.size w w8) := HB3.out.trans (bb8.mono HB3.out.size)
      obtain ⟨a8, c8, rfl⟩ := OwnL.slice o8
      have HO8 : Hid _ := o8
      clear bb6 b8 bb8 o7 r7 b6 o5 b5 hP hPs o8 k50 k51 k52 k53 k54 k60 k61 k62 k63 k64 k70 k71 k72 k73 k74 k80 k81 k82 k83 k84 g0 g1 g2 g3 wr1
      go_wp2_with fail
      refine (spansI_is _ _ _ w8).mono ?_
      rintro e w9 ⟨rfl, hw9⟩
      rw [hw9]
      clear hw9 w9
      go_wp2_with fail
      refine (collect_is w8.heap.size _ P HPS.out _ (by simp) (by simp) (ArgK.below (OwnL.argK HO8.out) (below_new _ _))).mono ?_
      rintro e w10 ⟨v10, rfl, o10, b10⟩
      have B9 := bstep HB8.out (below_new w8 (.cells #[.slice a8 P.length c8] 59))
      have B10 := bstep B9 b10
      have o10' := o10.mono B9.size
      have HO10 : Hid _ := o10'
      have HB10 : Hid _ := B10
      obtain ⟨L, hL⟩ : ∃ L, (spQ 0 P).length = L := ⟨_, rfl⟩
      rw [hL] at HO10
      obtain ⟨a10, c10, rfl⟩ := OwnS.sliceF HO10.out
      clear o10 b10 B9 B10 o10'
      by_cases h12 : L ≤ 12
      · have hLi : ¬ ((12 : Int) < (L : Int)) := by omega
        have hb : putB (fn l) n (C : Int) (F : Int) (T : Int) s m = true := by unfold putB; rw [HO.out, HS.out, HPP.out, hL]; simp; exact h12
        have hs : putS (fn l) n (C : Int) (F : Int) (T : Int) s m = P := by unfold putS; rw [if_pos hb, HPP.out]
        have HBB : Hid _ := hb
        have HSS : Hid _ := hs
        have HLL : Hid _ := hL
        clear hb hs hL
        go_wp2_with fail
        go_ret2
        rw [HBB.out, HSS.out, HLL.out]
        exact ⟨⟨_, rfl, HO10.out⟩, HB10.out⟩
      · have hLi : (12 : Int) < (L : Int) := by omega
        have hb : putB (fn l) n (C : Int) (F : Int) (T : Int) s m = false := by unfold putB; rw [HPP.out, hL]; simp; intro _ _; omega
        have hs : putS (fn l) n (C : Int) (F : Int) (T : Int) s m = [] := by unfold putS; rw [hb]; simp
        have HBB : Hid _ := hb
        have HSS : Hid _ := hs
        clear hb hs hL
        go_wp2_with fail
        go_ret2
        rw [HBB.out, HSS.out]
        exact ⟨⟨_, rfl, OwnS.nil _ _⟩, HB10.out⟩
    · have hno : spOk c f t s m = false := by simpa using hsp
      have HO : Hid _ := hok
      have HS : Hid _ := hno
      have hb : putB (fn l) n c f t s m = false := by unfold putB; rw [hno]; simp
      have hs : putS (fn l) n c f t s m = [] := by unfold putS; rw [hb]; simp
      have HBB : Hid _ := hb
      have HSS : Hid _ := hs
      clear hok hsp hno hb hs
      go_enter Try.func17, Try.ntmps17
      go_wp2_with fail
      refine (implSpansOk v n l c _ (HV.out _ bx)).mono ?_
      rintro e w1 ⟨rfl, b1⟩
      rw [HO.out]
      obtain ⟨G, hG⟩ : ∃ G, w.heap.size = G := ⟨_, rfl⟩
      have h4a : At4 (w.alloc (.cells #[.int .i64 f, .int .i64 t, .int .i64 s, .int .i64 m] 32)) G f t s m := by rw [← hG]; exact ⟨by simp, by simp, by simp, by simp, World.alloc_heap_new w _⟩
      obtain ⟨g0, g1, g2, g3, _⟩ := At4.below h4a (by rw [← hG]; simp) b1
      have B1 := bstep bx b1
      rw [hG]
      go_wp2_with fail
      refine (implSpOk _ _ _ _ _ w1).mono ?_
      rintro e w2 ⟨rfl, b2⟩
      rw [HS.out]
      go_wp2_with fail
      go_ret2
      rw [HBB.out, HSS.out]
      exact ⟨⟨_, rfl, OwnS.nil _ _⟩, bstep B1 b2⟩
  · have hno : spansOk (fn l) n c = false := by simpa using hok
    have HO : Hid _ := hno
    have hb : putB (fn l) n c f t s m = false := by unfold putB; rw [hno]; simp
    have hs : putS (fn l) n c f t s m = [] := by unfold putS; rw [hb]; simp
    have HBB : Hid _ := hb
    have HSS : Hid _ := hs
    clear hok hno hb hs
    go_enter Try.func17, Try.ntmps17
    go_wp2_with fail
    refine (implSpansOk v n l c _ (HV.out _ bx)).mono ?_
    rintro e w1 ⟨rfl, b1⟩
    rw [HO.out]
    go_wp2_with fail
    go_ret2
    rw [HBB.out, HSS.out]
    exact ⟨⟨_, rfl, OwnS.nil _ _⟩, bstep bx b1⟩

theorem move_cnt {O : Runs} {a : Nat} {k : Int} {c : Nat} : cntR (moveRuns O a k c) ≤ 2 * cntR O + k.toNat := by
  unfold moveRuns
  have h1 := part_cnt O 0 (withR (partR 0 [] O 0 a) (ahR 0 (10, 0) O a) k.toNat) (a + (-k).toNat) c
  have h2 := part_cnt O 0 [] 0 a
  rw [cnt_with] at h1
  simp only [cntR] at h2
  omega

set_option maxHeartbeats 1000000 in
theorem implMove (v : Value) (n : Nat) (l : List Int) (c a k : Int) (w : World) (hv : ArgS w v n l) :
    Calls Try.prog 21 #[v, .int .i64 c, .int .i64 a, .int .i64 k] w fun e w' => (∃ v', e = .returned v' ∧ OwnS w' w.heap.size v' (spQ 0 (moveS (fn l) n c a k)).length (spR 0 (moveS (fn l) n c a k))) ∧ Below w.heap.size w w' := by
  have HV : Hid (∀ w', Below w.heap.size w w' → ArgS w' v n l) := fun w' b => hv.below b
  clear hv
  by_cases hok : spansOk (fn l) n c = true
  · have HO : Hid _ := hok
    have hc80 := (spansOk_out hok).1
    by_cases hmv : 0 ≤ a ∧ a ≤ c ∧ a - c ≤ k ∧ k ≤ 80 - c
    · obtain ⟨h1, h2, h3, h4⟩ := hmv
      have hs : moveS (fn l) n c a k = moveRuns (looksR (fn l) n c) a.toNat k c.toNat := by unfold moveS moveOk; rw [hok]; simp; omega
      obtain ⟨A, rfl⟩ : ∃ A : Nat, a = (A : Int) := ⟨a.toNat, by omega⟩
      obtain ⟨C, rfl⟩ : ∃ C : Nat, c = (C : Int) := ⟨c.toNat, by omega⟩
      rw [Int.toNat_natCast, Int.toNat_natCast] at hs
      obtain ⟨O, hO⟩ : ∃ O, looksR (fn l) n (C : Int) = O := ⟨_, rfl⟩
      have hsh := looks_short hok
      rw [hO] at hsh hs
      have HSH : Hid _ := hsh
      have HOO : Hid _ := hO
      have HS : Hid _ := hs
      have HQ : Hid (A ≤ C ∧ C ≤ 80 ∧ (A : Int) - (C : Int) ≤ k ∧ k ≤ 80 - (C : Int)) := ⟨by omega, by omega, h3, h4⟩
      clear hs hsh hO hok hc80
      have wr1 : wrap64 ((A : Int) - (C : Int)) = (A : Int) - (C : Int) := by have hq := HQ.out; unfold wrap64; omega
      have wr2 : wrap64 (80 - (C : Int)) = 80 - (C : Int) := by have hq := HQ.out; unfold wrap64; omega
      have hAC : A ≤ C := by omega
      have hd1 : decide (C < A) = false := by simp; omega
      go_enter Try.func21, Try.ntmps21
      go_wp2_with fail
      refine (implSpansOk v n l (C : Int) _ (HV.out _ (Below.refl _ _))).mono ?_
      rintro e w1 ⟨rfl, b1⟩
      rw [HO.out]
      go_wp2_with fail
      refine (looksOf_is v n l (C : Int) w1 (HV.out _ b1) HO.out).mono ?_
      rintro e w3 ⟨v3, rfl, o3, b3⟩
      rw [HOO.out] at o3
      have B3 := bstep b1 b3
      have HA : Hid (ArgK w3 v3 O) := o3.argK
      have HAP : Hid (∀ b cap, v3 = .slice (some ⟨b, 0, none⟩) O.length cap → b < w3.heap.size) := fun b cap e => (o3.lt b (by rw [e]; rfl)).2
      have HB3 : Hid (Below w.heap.size w w3) := B3
      clear b1 b3 o3 B3
      go_wp2_with fail
      refine (part_is w3.heap.size (.slice none 0 0) v3 [] O 0 A w3 (OwnL.nil _ _) HA.out HAP.out (Nat.le_refl _) (by have := HSH.out; simp; omega) (by have := HSH.out; simp [cntR]; omega) (by omega) (by have := HQ.out; omega)).mono ?_
      rintro e w4 ⟨v4, rfl, o4, b4⟩
      have HA4 : Hid (ArgK w4 v3 O) := ArgK.belowB HA.out b4 HAP.out
      go_wp2_with fail
      refine (ahead_is v3 O A w4 HA4.out (by have := HSH.out; omega) (by have := HSH.out; omega) (by have := HQ.out; omega)).mono ?_
      rintro e w5 ⟨rfl, b5⟩
      have HB5 : Hid (Below w3.heap.size w3 w5) := b4.trans (b5.mono b4.size)
      have HO5 : Hid (OwnL w5 w3.heap.size v4 (partR 0 [] O 0 A).length (flatL (partR 0 [] O 0 A))) := OwnL.bel o4 b5
      have HL5 : Hid ((partR 0 [] O 0 A).length ≤ 80 ∧ cntR (partR 0 [] O 0 A) ≤ 80) := by
        have h1 := part_len O 0 [] 0 A
        have h2 := part_cnt O 0 [] 0 A
        have := HSH.out
        simp only [cntR, List.length_nil] at h1 h2
        exact ⟨by omega, by omega⟩
      clear o4 b4 b5
      go_wp2_with fail
      refine (with_at w3.heap.size v4 (partR 0 [] O 0 A) _ _ k k.toNat w5 rfl HO5.out HB5.out.size (by have := HL5.out; omega) (by have := HL5.out; omega) (by have := HQ.out; omega)).mono ?_
      rintro e w6 ⟨v6, rfl, o6, g6⟩
      have HB6 : Hid (Below w3.heap.size w3 w6) := Below.grown HB5.out g6 HB5.out.size (fun q hq => (OwnL.lt HO5.out q hq).1)
      have HO6 : Hid (OwnL w6 w3.heap.size v6 (withR (partR 0 [] O 0 A) ((ahR 0 (10, 0) O A).1, (ahR 0 (10, 0) O A).2) k.toNat).length (flatL (withR (partR 0 [] O 0 A) ((ahR 0 (10, 0) O A).1, (ahR 0 (10, 0) O A).2) k.toNat))) := o6
      have HA6 : Hid (ArgK w6 v3 O) := ArgK.belowB HA.out HB6.out HAP.out
      clear o6 g6
      obtain ⟨E, hE⟩ : ∃ E : Nat, A + (-k).toNat = E := ⟨_, rfl⟩
      have HEE : Hid _ := hE
      have hE80 : E ≤ 200 := by have := HQ.out; omega
      rcases (show k ≤ 0 ∨ 0 < k by omega) with hk | hk
      · have hEi : (A : Int) - k = (E : Int) := by omega
        have wr3 : IntKind.i64.wrap ((A : Int) - k) = (E : Int) := by rw [hEi]; simp [IntKind.wrap, IntKind.bits, IntKind.signed]; omega
        have wr4 : wrap64 ((A : Int) - k) = (E : Int) := by rw [hEi]; unfold wrap64; omega
        go_wp2_with fail
        refine (part_is w3.heap.size v6 v3 _ O E C w6 HO6.out HA6.out HAP.out HB6.out.size (by have := HSH.out; have := HL5.out; have := with_len (partR 0 [] O 0 A) ((ahR 0 (10, 0) O A).1, (ahR 0 (10, 0) O A).2) k.toNat; omega) (by have := HSH.out; have := HL5.out; have := HQ.out; rw [cnt_with]; omega) (by omega) (by have := HQ.out; omega)).mono ?_
        rintro e w8 ⟨v8, rfl, o8, b8⟩
        have HB8 : Hid (Below w.heap.size w w8) := HB3.out.trans ((HB6.out.trans b8).mono HB3.out.size)
        obtain ⟨P, hP⟩ : ∃ P, moveRuns O A k C = P := ⟨_, rfl⟩
        have hP2 : partR 0 (withR (partR 0 [] O 0 A) ((ahR 0 (10, 0) O A).1, (ahR 0 (10, 0) O A).2) k.toNat) O E C = P := by rw [← hP, ← HEE.out]; rfl
        rw [hP2] at o8
        have hPs : P.length ≤ 1000 ∧ cntR P ≤ 1000000 := by
          have h1 := move_cnt (O := O) (a := A) (k := k) (c := C)
          have h2 := norm_le (norm_move O A k C)
          rw [hP] at h1 h2
          have := HSH.out
          have := HQ.out
          omega
        have HPS : Hid _ := hPs
        have HSP : Hid (moveS (fn l) n (C : Int) (A : Int) k = P) := by show _ = _; rw [HS.out, hP]
        obtain ⟨a8, c8, rfl⟩ := OwnL.slice o8
        have HO8 : Hid (OwnL w8 w3.heap.size (.slice a8 P.length c8) P.length (flatL P)) := o8
        clear o8 b8 hP hP2 hPs
        go_wp2_with fail
        refine (spansI_is _ _ _ w8).mono ?_
        rintro e w9 ⟨rfl, hw9⟩
        rw [hw9]
        clear hw9 w9
        go_wp2_with fail
        refine (collect_is w8.heap.size _ P HPS.out _ (by simp) (by simp) (ArgK.below (OwnL.argK HO8.out) (below_new _ _))).mono ?_
        rintro e w10 ⟨v10, rfl, o10, b10⟩
        have B9 := bstep HB8.out (below_new w8 (.cells #[.slice a8 P.length c8] 59))
        have B10 := bstep B9 b10
        have o10' := o10.mono B9.size
        go_wp2_with fail
        go_ret
        rw [HSP.out]
        exact ⟨⟨_, rfl, o10'⟩, B10⟩
      · have hEA : A = E := by omega
        subst hEA
        go_wp2_with fail
        refine (part_is w3.heap.size v6 v3 _ O A C w6 HO6.out HA6.out HAP.out HB6.out.size (by have := HSH.out; have := HL5.out; have := with_len (partR 0 [] O 0 A) ((ahR 0 (10, 0) O A).1, (ahR 0 (10, 0) O A).2) k.toNat; omega) (by have := HSH.out; have := HL5.out; have := HQ.out; rw [cnt_with]; omega) (by omega) (by have := HQ.out; omega)).mono ?_
        rintro e w8 ⟨v8, rfl, o8, b8⟩
        have HB8 : Hid (Below w.heap.size w w8) := HB3.out.trans ((HB6.out.trans b8).mono HB3.out.size)
        obtain ⟨P, hP⟩ : ∃ P, moveRuns O A k C = P := ⟨_, rfl⟩
        have hP2 : partR 0 (withR (partR 0 [] O 0 A) ((ahR 0 (10, 0) O A).1, (ahR 0 (10, 0) O A).2) k.toNat) O A C = P := by rw [← hP]; unfold moveRuns; rw [show A + (-k).toNat = A from HEE.out]
        rw [hP2] at o8
        have hPs : P.length ≤ 1000 ∧ cntR P ≤ 1000000 := by
          have h1 := move_cnt (O := O) (a := A) (k := k) (c := C)
          have h2 := norm_le (norm_move O A k C)
          rw [hP] at h1 h2
          have := HSH.out
          have := HQ.out
          omega
        have HPS : Hid _ := hPs
        have HSP : Hid (moveS (fn l) n (C : Int) (A : Int) k = P) := by show _ = _; rw [HS.out, hP]
        obtain ⟨a8, c8, rfl⟩ := OwnL.slice o8
        have HO8 : Hid (OwnL w8 w3.heap.size (.slice a8 P.length c8) P.length (flatL P)) := o8
        clear o8 b8 hP hP2 hPs
        go_wp2_with fail
        refine (spansI_is _ _ _ w8).mono ?_
        rintro e w9 ⟨rfl, hw9⟩
        rw [hw9]
        clear hw9 w9
        go_wp2_with fail
        refine (collect_is w8.heap.size _ P HPS.out _ (by simp) (by simp) (ArgK.below (OwnL.argK HO8.out) (below_new _ _))).mono ?_
        rintro e w10 ⟨v10, rfl, o10, b10⟩
        have B9 := bstep HB8.out (below_new w8 (.cells #[.slice a8 P.length c8] 59))
        have B10 := bstep B9 b10
        have o10' := o10.mono B9.size
        go_wp2_with fail
        go_ret
        rw [HSP.out]
        exact ⟨⟨_, rfl, o10'⟩, B10⟩
    · have hs : moveS (fn l) n c a k = [] := by unfold moveS moveOk; rw [hok]; simp; intro h1 h2 h3; omega
      have HS : Hid _ := hs
      obtain ⟨hc1, hc2, hc3⟩ := hc80
      clear hs hok
      rcases (show a < 0 ∨ (0 ≤ a ∧ c < a) ∨ (0 ≤ a ∧ a ≤ c ∧ k < a - c) ∨ (0 ≤ a ∧ a ≤ c ∧ a - c ≤ k ∧ 80 - c < k) by omega) with h1 | ⟨h1, h2⟩ | ⟨h1, h2, h3⟩ | ⟨h1, h2, h3, h4⟩
      · clear hmv
        go_enter Try.func21, Try.ntmps21
        go_wp2_with fail
        refine (implSpansOk v n l c _ (HV.out _ (Below.refl _ _))).mono ?_
        rintro e w1 ⟨rfl, b1⟩
        rw [HO.out]
        go_wp2_with fail
        go_ret
        rw [HS.out]
        exact ⟨⟨_, rfl, OwnS.nil _ _⟩, b1⟩
      · clear hmv
        go_enter Try.func21, Try.ntmps21
        go_wp2_with fail
        refine (implSpansOk v n l c _ (HV.out _ (Below.refl _ _))).mono ?_
        rintro e w1 ⟨rfl, b1⟩
        rw [HO.out]
        go_wp2_with fail
        go_ret
        rw [HS.out]
        exact ⟨⟨_, rfl, OwnS.nil _ _⟩, b1⟩
      · clear hmv
        have wr1 : wrap64 (a - c) = a - c := by unfold wrap64; omega
        go_enter Try.func21, Try.ntmps21
        go_wp2_with fail
        refine (implSpansOk v n l c _ (HV.out _ (Below.refl _ _))).mono ?_
        rintro e w1 ⟨rfl, b1⟩
        rw [HO.out]
        go_wp2_with fail
        go_ret
        rw [HS.out]
        exact ⟨⟨_, rfl, OwnS.nil _ _⟩, b1⟩
      · clear hmv
        have wr1 : wrap64 (a - c) = a - c := by unfold wrap64; omega
        have wr2 : wrap64 (80 - c) = 80 - c := by unfold wrap64; omega
        go_enter Try.func21, Try.ntmps21
        go_wp2_with fail
        refine (implSpansOk v n l c _ (HV.out _ (Below.refl _ _))).mono ?_
        rintro e w1 ⟨rfl, b1⟩
        rw [HO.out]
        go_wp2_with fail
        go_ret
        rw [HS.out]
        exact ⟨⟨_, rfl, OwnS.nil _ _⟩, b1⟩
  · have hno : spansOk (fn l) n c = false := by simpa using hok
    have hs : moveS (fn l) n c a k = [] := by unfold moveS moveOk; rw [hno]; simp
    have HO : Hid _ := hno
    have HS : Hid _ := hs
    clear hs hno hok
    go_enter Try.func21, Try.ntmps21
    go_wp2_with fail
    refine (implSpansOk v n l c _ (HV.out _ (Below.refl _ _))).mono ?_
    rintro e w1 ⟨rfl, b1⟩
    rw [HO.out]
    go_wp2_with fail
    go_ret
    rw [HS.out]
    exact ⟨⟨_, rfl, OwnS.nil _ _⟩, b1⟩
end Go.Proofs.Ytobmdefklgkoiaa
