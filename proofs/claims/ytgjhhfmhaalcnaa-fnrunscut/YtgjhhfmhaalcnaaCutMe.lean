import Derived.Test.YtgjhhfmhaalcnaaCutMg
namespace Go.Proofs.Ytgjhhfmhaalcnaa
open Go.ChangeShapes Go.WideShapes Go.ChangeAt Go.RowKit
set_option linter.unusedSimpArgs false

theorem RR.zero {w : World} {a : Option Addr} {n : Nat} {l : List Int} (h : RR w a n l) (hn : 0 < n) : ∃ g, a = some ⟨g, 0, none⟩ ∧ g < w.heap.size ∧ w.cell? ⟨g, 0 * 3, none⟩ = some (.int .i64 (fn l (0 * 3))) ∧ w.cell? ⟨g, 0 * 3 + 1, none⟩ = some (.int .i64 (fn l (0 * 3 + 1))) ∧ w.cell? ⟨g, 0 * 3 + 2, none⟩ = some (.int .i64 (fn l (0 * 3 + 2))) := h.three hn

set_option maxHeartbeats 1000000 in
/-- The two first calls, and what lies there behind them. -/
theorem merge_open {w w1 w3 : World} {B PA NA PB NB : Nat} {a b : Option Addr} {n m ca cb : Nat} {la lb : List Int} (l : PA < NA ∧ NA < PB ∧ PB < NB) (hB : B ≤ PA) (ha : ∀ g o, a = some ⟨g, o, none⟩ → g < B) (hb : ∀ g o, b = some ⟨g, o, none⟩ → g < B)
    (mg : Mg w PA NA PB NB (.slice a n ca) (.slice b m cb) 0 0) (ra : RR w a n la) (rb : RR w b m lb) (g1 : w.grownBy w1 (some NA)) (n1 : w1.heap[NA]? = some (.cells #[.int .i64 ((0 + 1 : Nat) : Int)] 3 (0, 0))) (x0 x1 x2 : Int) (hx0 : fn la (0 * 3) = x0) (hx1 : fn la (0 * 3 + 1) = x1) (hx2 : fn la (0 * 3 + 2) = x2) (y0 y1 y2 : Int) (hy0 : fn lb (0 * 3) = y0) (hy1 : fn lb (0 * 3 + 1) = y1) (hy2 : fn lb (0 * 3 + 2) = y2)
    (g3 : (w1.alloc (.cells #[.int .i64 x0, .int .i64 x1, .int .i64 x2] 38)).grownBy w3 (some NB)) (n3 : w3.heap[NB]? = some (.cells #[.int .i64 ((0 + 1 : Nat) : Int)] 3 (0, 0))) :
    Lays B PA NA PB NB w1.heap.size w3.heap.size a b ∧ Ms w (w3.alloc (.cells #[.int .i64 y0, .int .i64 y1, .int .i64 y2] 38)) B PA NA PB NB w1.heap.size w3.heap.size a b n m ca cb la lb 0 0 (.slice none 0 0) 0 [] ∧ w.heap.size ≤ w1.heap.size := by
  have s1 := g1.size
  have s3 := g3.size
  simp at s3
  have hlt : NB < w.heap.size := (Array.getElem?_eq_some_iff.1 mg.nb).1
  have L : Lays B PA NA PB NB w1.heap.size w3.heap.size a b := ⟨l, hB, by omega, by omega, ha, hb⟩
  have ga := grown_alloc1 w1 (.cells #[.int .i64 x0, .int .i64 x1, .int .i64 x2] 38) none
  have gb := grown_alloc1 w3 (.cells #[.int .i64 y0, .int .i64 y1, .int .i64 y2] 38) none
  refine ⟨L, ⟨(((mg.moreA g1 n1 l).grown ga (fun k e => by cases e) l).moreB g3 n3 l).grown gb (fun k e => by cases e) l, ?_, ?_, ?_, ?_, OwnR.nil _ _, ?_⟩, s1⟩
  · rw [hx0, hx1, hx2]
    exact blk_grown gb (blk_grown g3 (heap_alloc_new w1 _) (fun e => by simp at e; omega)) (by simp)
  · rw [hy0, hy1, hy2]; exact heap_alloc_new w3 _
  · exact (((ra.grown g1 (fun g o e q => by have := ha g o e; simp at q; omega)).grown ga (fun g o e q => by cases q)).grown g3 (fun g o e q => by have := ha g o e; simp at q; omega)).grown gb (fun g o e q => by cases q)
  · exact (((rb.grown g1 (fun g o e q => by have := hb g o e; simp at q; omega)).grown ga (fun g o e q => by cases q)).grown g3 (fun g o e q => by have := hb g o e; simp at q; omega)).grown gb (fun g o e q => by cases q)
  · have b1 : Below B w w1 := (Below.refl B w).grown g1 (by omega) (fun k e => by simp at e; omega)
    exact (((b1.alloc (by omega) _).grown g3 (by simp; omega) (fun k e => by simp at e; omega))).alloc (by omega) _

set_option maxRecDepth 10000 in
set_option maxHeartbeats 4000000 in
theorem merge_any (B PA NA PB NB : Nat) (a b : Option Addr) (n m ca cb : Nat) (la lb : List Int) (w : World) (l : PA < NA ∧ NA < PB ∧ PB < NB) (hB : B ≤ PA) (ha : ∀ g o, a = some ⟨g, o, none⟩ → g < B) (hb : ∀ g o, b = some ⟨g, o, none⟩ → g < B)
    (mg : Mg w PA NA PB NB (.slice a n ca) (.slice b m cb) 0 0) (ra : RR w a n la) (rb : RR w b m lb) (T : Two (fn la) (fn lb) n m) :
    Calls Try.prog 42 #[.func (Fn.func 70) #[] #[.pointer (some ⟨NA, 0, none⟩), .pointer (some ⟨PA, 0, none⟩)], .func (Fn.func 70) #[] #[.pointer (some ⟨NB, 0, none⟩), .pointer (some ⟨PB, 0, none⟩)]] w fun e w' =>
      (∃ v c, e = .returned v ∧ OwnR w' w.heap.size v c (cutR (fn la) (fn lb) n (n + m) 0 0 0)) ∧ Below B w w' := by
  have HT : Hid (Two (fn la) (fn lb) n m) := T
  obtain ⟨hn80, hm80⟩ := T.sizes
  have hn0 := T.n0
  have hm0 := T.m0
  have HMG : Hid _ := mg
  have HL : Hid _ := l
  have HRA : Hid (RR w a n la) := ra
  have HRB : Hid (RR w b m lb) := rb
  have HA : Hid (∀ g o, a = some ⟨g, o, none⟩ → g < B) := ha
  have HB : Hid (∀ g o, b = some ⟨g, o, none⟩ → g < B) := hb
  have hltB : NB < w.heap.size := (Array.getElem?_eq_some_iff.1 mg.nb).1
  clear T mg l ra rb ha hb
  go_enter Try.func42, Try.ntmps42
  go_wp2_with fail
  obtain ⟨ga, hga, hgw, c0, c1, c2⟩ := HRA.out.zero hn0
  have q1 := HA.out ga 0 hga
  have q2 := HL.out
  subst hga
  refine (iter_more NA PA ga 0 n ca la w HMG.out.na HMG.out.pa hgw c0 c1 c2 hn0 (by omega) (by omega) (by omega)).mono ?_
  clear c0 c1 c2
  rintro e w1 ⟨rfl, g1, n1⟩
  obtain ⟨x0, hx0⟩ : ∃ x, fn la (0 * 3) = x := ⟨_, rfl⟩
  obtain ⟨x1, hx1⟩ : ∃ x, fn la (0 * 3 + 1) = x := ⟨_, rfl⟩
  obtain ⟨x2, hx2⟩ : ∃ x, fn la (0 * 3 + 2) = x := ⟨_, rfl⟩
  have HX0 : Hid _ := hx0
  have HX1 : Hid _ := hx1
  have HX2 : Hid _ := hx2
  rw [hx0, hx1, hx2]
  clear hx0 hx1 hx2
  have HG1 : Hid _ := g1
  have HN1 : Hid _ := n1
  have s1 := g1.size
  clear g1 n1
  go_wp2_with fail
  have RB2 : RR (w1.alloc (.cells #[.int .i64 x0, .int .i64 x1, .int .i64 x2] 38)) b m lb := (HRB.out.grown HG1.out (fun g o e q => by have := HB.out g o e; simp at q; omega)).grown (grown_alloc1 w1 _ none) (fun g o e q => by cases q)
  have MG2 := (HMG.out.moreA HG1.out HN1.out HL.out).grown (grown_alloc1 w1 (.cells #[.int .i64 x0, .int .i64 x1, .int .i64 x2] 38) none) (fun k e => by cases e) HL.out
  obtain ⟨gb, hgb, hgw2, d0, d1, d2⟩ := RB2.zero hm0
  have q3 := HB.out gb 0 hgb
  subst hgb
  refine (iter_more NB PB gb 0 m cb lb _ MG2.nb MG2.pb hgw2 d0 d1 d2 hm0 (by omega) (by omega) (by omega)).mono ?_
  clear d0 d1 d2 RB2 MG2 hgw2
  rintro e w3 ⟨rfl, g3, n3⟩
  obtain ⟨y0, hy0⟩ : ∃ x, fn lb (0 * 3) = x := ⟨_, rfl⟩
  obtain ⟨y1, hy1⟩ : ∃ x, fn lb (0 * 3 + 1) = x := ⟨_, rfl⟩
  obtain ⟨y2, hy2⟩ : ∃ x, fn lb (0 * 3 + 2) = x := ⟨_, rfl⟩
  rw [hy0, hy1, hy2]
  obtain ⟨L, S0, s4⟩ := merge_open HL.out hB HA.out HB.out HMG.out HRA.out HRB.out HG1.out HN1.out x0 x1 x2 HX0.out HX1.out HX2.out y0 y1 y2 hy0 hy1 hy2 g3 n3
  have HLy : Hid _ := L
  have HS0 : Hid _ := S0
  clear hy0 hy1 hy2 g3 n3 L S0 HX0 HX1 HX2 HG1 HN1 HMG HRA HRB
  go_wp2_with fail
  obtain ⟨G, hG⟩ : ∃ G, w1.heap.size = G := ⟨_, rfl⟩
  obtain ⟨H, hH⟩ : ∃ H, w3.heap.size = H := ⟨_, rfl⟩
  rw [hG, hH] at HLy HS0 ⊢
  obtain ⟨W, hW⟩ : ∃ W, w3.alloc (.cells #[.int .i64 y0, .int .i64 y1, .int .i64 y2] 38) = W := ⟨_, rfl⟩
  rw [hW] at HS0 ⊢
  rw [hG] at s4
  clear hG hH hW
  obtain ⟨TT, hTT⟩ : ∃ TT, cutR (fn la) (fn lb) n (n + m) 0 0 0 = TT := ⟨_, rfl⟩
  have HTT : Hid _ := hTT
  clear hTT
  go_loopw [5, 6, 8] (fun q f mo wr => (∃ (i k c d : Nat) (fv : Int) (O : List Int), mo = .bool true ∧ f = .int .i64 fv ∧ c ≤ 160 ∧ c + d ≤ 160 ∧ Hid (n - i + (m - k) ≤ d) ∧ Hid (St (fn la) (fn lb) n m fv i k) ∧ Hid (Ms w wr B PA NA PB NB G H (some ⟨ga, 0, none⟩) (some ⟨gb, 0, none⟩) n m ca cb la lb i k q c O) ∧ Hid (O ++ cutR (fn la) (fn lb) n d fv i k = TT)) ∨ (∃ (c : Nat) (fv : Int), mo = .bool false ∧ f = .int .i64 fv ∧ Hid (OwnR wr (H + 1) q c TT) ∧ Hid (Below B w wr))) (fun _ f _ _ => (81 - intOf f).toNat)
  case atStart => exact .inl ⟨0, 0, 0, n + m, 0, [], rfl, rfl, by omega, by omega, by show _ ≤ _; omega, St.start HT.out, HS0, by show _ = _; rw [← HTT.out]; rfl⟩
  case round =>
    rcases hrel with ⟨i, k, c, d, fv, O, rfl, rfl, hc, hcd, hd, hst, hms, htt⟩ | ⟨c, fv, rfl, rfl, ho, hbl⟩
    · have hst2 := hst.out
      obtain ⟨d', rfl⟩ : ∃ d', d = d' + 1 := ⟨d - 1, by have := hd.out; have := hst2.i_lt; omega⟩
      obtain ⟨t0, t1, t2, _⟩ := three_cells hms.out.g
      obtain ⟨u0, u1, u2, _⟩ := three_cells hms.out.h
      have HSZ : Hid (H + 1 ≤ wr.heap.size) := (Array.getElem?_eq_some_iff.1 hms.out.h).1
      obtain ⟨Z1, hZ1⟩ : ∃ x, fn la (i * 3 + 1) = x := ⟨_, rfl⟩
      obtain ⟨Z2, hZ2⟩ : ∃ x, fn la (i * 3 + 2) = x := ⟨_, rfl⟩
      obtain ⟨Y1, hY1⟩ : ∃ x, fn lb (k * 3 + 1) = x := ⟨_, rfl⟩
      have HZ1 : Hid (fn la (i * 3 + 1) = Z1) := hZ1
      have HY1 : Hid (fn lb (k * 3 + 1) = Y1) := hY1
      have hfz : fv < Z1 := by have := hst2.zt; omega
      have hfy : fv < Y1 := by have := hst2.yt; omega
      have hf80 : fv < 81 := by
        have h1 := wE_ge HT.out.wz (show i + 1 ≤ n by have := hst2.i_lt; omega)
        have h2 := HT.out.le
        have h3 : Z1 ≤ 80 := by
          rw [← hZ1]
          rcases Nat.lt_or_ge (i + 1) n with q | q
          · have := wE_lt HT.out.wz q (Nat.le_refl _); simp only [wE] at this; exact Int.le_trans (Int.le_of_lt this) h2
          · have e : i + 1 = n := by have := hst2.i_lt; omega
            rw [← e] at h2; exact h2
        omega
      have hil := hst2.i_lt
      have hkl := hst2.k_lt
      have HO := hms.out.out
      have HO2 : Hid _ := HO
      clear HO
      rw [hZ1] at t1
      rw [hZ2] at t2
      rw [hY1] at u1
      by_cases e1 : Z1 ≤ Y1
      · have E1 : Hid (fn la (i * 3 + 1) ≤ fn lb (k * 3 + 1)) := by show _ ≤ _; rw [hZ1, hY1]; exact e1
        have HC := cutR_fst (z := fn la) (y := fn lb) (n := n) (d := d') (f := fv) hst2.i_lt E1.out
        rw [hZ1, hZ2, hY1] at HC
        have HC2 : Hid _ := HC
        clear HC hst2
        by_cases e2 : Y1 ≤ Z1
        · have ey : Y1 = Z1 := by omega
          subst ey
          rw [if_pos (Int.le_refl _)] at HC2
          rcases last_iff HT.out hil hkl E1.out with hi1 | ⟨hi1, hk1, _⟩
          · have hk1 : k + 1 < m := by
              rcases last_iff2 HT.out hil hkl (by rw [hZ1, hY1]; exact Int.le_refl _) with q | q
              · exact q
              · omega
            have HST := hst.out.fst HT.out E1.out hi1
            rw [hZ1, hY1, if_pos (Int.le_refl _)] at HST
            have HST2 : Hid _ := HST
            clear HST hZ1 hZ2 hY1 e1 e2
            go_wp2_with (at_builtin; refine own_appendR (.tmp 28) (.tmp 34) HO2.out (by omega) HSZ.out rfl rfl rfl rfl ?_; intro v5 w5 o5 g5; have HS5 : Hid (Ms w w5 B PA NA PB NB G H (some ⟨ga, 0, none⟩) (some ⟨gb, 0, none⟩) n m ca cb la lb i k v5 (c + 1) (O ++ [fv, Y1, Z2])) := hms.out.app HLy.out o5 g5; have k1 : w5.cell? ⟨G, 1, none⟩ = some (.int .i64 Y1) := (three_cells HS5.out.g).2.1.trans (by rw [HZ1.out]); have k2 : w5.cell? ⟨H, 1, none⟩ = some (.int .i64 Y1) := (three_cells HS5.out.h).2.1.trans (by rw [HY1.out]); clear o5 g5 t0 t1 t2 u0 u1 u2)
            refine (HS5.out.callB HLy.out hk1 hm80).mono ?_
            rintro e w6 ⟨rfl, gw6, nw6⟩
            obtain ⟨Tw6, Sw6⟩ := HS5.out.nextB HLy.out gw6 nw6
            obtain ⟨aw60, eaw60⟩ : ∃ x, fn lb ((k + 1) * 3) = x := ⟨_, rfl⟩
            obtain ⟨aw61, eaw61⟩ : ∃ x, fn lb ((k + 1) * 3 + 1) = x := ⟨_, rfl⟩
            obtain ⟨aw62, eaw62⟩ : ∃ x, fn lb ((k + 1) * 3 + 2) = x := ⟨_, rfl⟩
            rw [eaw60, eaw61, eaw62] at Sw6 ⊢
            have HSw6 : Hid _ := Sw6
            obtain ⟨pw60, pw61, pw62, fw60, fw61, fw62, _⟩ := three_cells Tw6
            clear eaw60 eaw61 eaw62 gw6 nw6 Tw6 Sw6
            have r6 : (((w6.setCell ⟨H, 0, none⟩ (.int .i64 aw60)).setCell ⟨H, 1, none⟩ (.int .i64 aw61)).setCell ⟨H, 2, none⟩ (.int .i64 aw62)).cell? ⟨G, 1, none⟩ = some (.int .i64 Y1) := (three_cells HSw6.out.g).2.1.trans (by rw [HZ1.out])
            clear k1
            go_wp2_with fail
            refine (HSw6.out.callA HLy.out hi1 hn80).mono ?_
            rintro e w7 ⟨rfl, gw7, nw7⟩
            obtain ⟨Tw7, Sw7⟩ := HSw6.out.nextA HLy.out gw7 nw7
            obtain ⟨aw70, eaw70⟩ : ∃ x, fn la ((i + 1) * 3) = x := ⟨_, rfl⟩
            obtain ⟨aw71, eaw71⟩ : ∃ x, fn la ((i + 1) * 3 + 1) = x := ⟨_, rfl⟩
            obtain ⟨aw72, eaw72⟩ : ∃ x, fn la ((i + 1) * 3 + 2) = x := ⟨_, rfl⟩
            rw [eaw70, eaw71, eaw72] at Sw7 ⊢
            have HSw7 : Hid _ := Sw7
            obtain ⟨pw70, pw71, pw72, fw70, fw71, fw72, _⟩ := three_cells Tw7
            clear eaw70 eaw71 eaw72 gw7 nw7 Tw7 Sw7
            go_wp2_with fail
            refine ⟨Or.inl ⟨i + 1, k + 1, c + 1, d', Y1, O ++ [fv, Y1, Z2], rfl, rfl, by omega, by omega, by show _ ≤ _; have := hd.out; omega, HST2, HSw7, by show _ = _; rw [← htt.out, HC2.out, List.append_assoc]⟩, by simp only [intOf]; omega⟩
          · have HEND : Hid (O ++ [fv, Y1, Z2] = TT) := by show _ = _; rw [← htt.out, HC2.out, hi1, cutR_end]; simp
            clear hZ1 hZ2 hY1 e1 e2
            go_wp2_with (at_builtin; refine own_appendR (.tmp 28) (.tmp 34) HO2.out (by omega) HSZ.out rfl rfl rfl rfl ?_; intro v5 w5 o5 g5; have HS5 : Hid (Ms w w5 B PA NA PB NB G H (some ⟨ga, 0, none⟩) (some ⟨gb, 0, none⟩) n m ca cb la lb i k v5 (c + 1) (O ++ [fv, Y1, Z2])) := hms.out.app HLy.out o5 g5; have k1 : w5.cell? ⟨G, 1, none⟩ = some (.int .i64 Y1) := (three_cells HS5.out.g).2.1.trans (by rw [HZ1.out]); have k2 : w5.cell? ⟨H, 1, none⟩ = some (.int .i64 Y1) := (three_cells HS5.out.h).2.1.trans (by rw [HY1.out]); clear o5 g5 t0 t1 t2 u0 u1 u2)
            have MG5 := HS5.out.mg
            rw [hi1, hk1] at MG5
            refine MG5.endB.mono ?_
            rintro e w6 ⟨rfl, b6⟩
            have g6 := grown_below_none b6
            have L2 := HLy.out
            have l1 := L2.l
            have l2 := L2.g
            have l3 := L2.h
            have l4 := L2.b0
            have tg : Tri w6 G _ _ _ := blk_grown g6 HS5.out.g (by simp)
            have th : Tri w6 H _ _ _ := blk_grown g6 HS5.out.h (by simp)
            obtain ⟨p0, p1, p2, f0, f1, f2, _⟩ := three_cells th
            have gh := grown_set3 w6 H (.int .i64 0) (.int .i64 0) (.int .i64 0)
            have tg2 : Tri _ G _ _ _ := blk_grown gh tg (fun e => by simp at e; omega)
            obtain ⟨_, r1, _, _, _, _, _⟩ := three_cells tg2
            rw [HZ1.out] at r1
            have mg6 := (MG5.grown g6 (fun k e => by cases e) l1).grown gh (fun k e => by simp at e; omega) l1
            have ho6 := (HS5.out.out.grown g6 (fun k e => by cases e)).grown gh (fun k e => by simp at e; omega)
            have hp := (Array.getElem?_eq_some_iff.1 HS5.out.mg.pa).1
            have hp6 := b6.size
            have hb6 := (HS5.out.bel.grown g6 (by omega) (fun k e => by cases e)).grown gh (by omega) (fun k e => by simp at e; omega)
            have MG6 : Hid _ := mg6
            have TG6 : Hid _ := tg2
            have HO6 : Hid _ := ho6
            have HB6 : Hid _ := hb6
            clear k1 k2 MG5 g6 tg th gh tg2 mg6 ho6 hb6
            go_wp2_with fail
            refine MG6.out.endA.mono ?_
            rintro e w7 ⟨rfl, b7⟩
            have g7 := grown_below_none b7
            have tg7 : Tri w7 G _ _ _ := blk_grown g7 TG6.out (by simp)
            obtain ⟨s0, s1', s2, v0, v1, v2, _⟩ := three_cells tg7
            have gg := grown_set3 w7 G (.int .i64 0) (.int .i64 0) (.int .i64 0)
            have ho7 := (OwnR.grown HO6.out g7 (fun k e => by cases e)).grown gg (fun k e => by simp at e; omega)
            have hp7 := b7.size
            simp at hp7
            have hb7 := (Below.grown HB6.out g7 (by simp; omega) (fun k e => by cases e)).grown gg (by omega) (fun k e => by simp at e; omega)
            have HO7 : Hid _ := ho7
            have HB7 : Hid _ := hb7
            clear tg7 gg ho7 hb7 g7
            go_wp2_with fail
            refine ⟨Or.inr ⟨c + 1, Y1, rfl, rfl, by rw [← HEND.out]; exact HO7, HB7⟩, by simp only [intOf]; omega⟩
        · have ey : (Y1 == Z1) = false := by simp; omega
          rw [if_neg e2] at HC2
          have hi1 : i + 1 < n := by
            rcases last_iff HT.out hil hkl E1.out with q | q
            · exact q
            · omega
          have HST := hst.out.fst HT.out E1.out hi1
          rw [hZ1, hY1, if_neg e2] at HST
          have HST2 : Hid _ := HST
          clear HST hZ1 hZ2 hY1
          go_wp2_with (at_builtin; refine own_appendR (.tmp 28) (.tmp 34) HO2.out (by omega) HSZ.out rfl rfl rfl rfl ?_; intro v5 w5 o5 g5; have HS5 : Hid (Ms w w5 B PA NA PB NB G H (some ⟨ga, 0, none⟩) (some ⟨gb, 0, none⟩) n m ca cb la lb i k v5 (c + 1) (O ++ [fv, Z1, Z2])) := hms.out.app HLy.out o5 g5; have k1 : w5.cell? ⟨G, 1, none⟩ = some (.int .i64 Z1) := (three_cells HS5.out.g).2.1.trans (by rw [HZ1.out]); have k2 : w5.cell? ⟨H, 1, none⟩ = some (.int .i64 Y1) := (three_cells HS5.out.h).2.1.trans (by rw [HY1.out]); clear o5 g5 t0 t1 t2 u0 u1 u2)
          refine (HS5.out.callA HLy.out hi1 hn80).mono ?_
          rintro e w6 ⟨rfl, gw6, nw6⟩
          obtain ⟨Tw6, Sw6⟩ := HS5.out.nextA HLy.out gw6 nw6
          obtain ⟨aw60, eaw60⟩ : ∃ x, fn la ((i + 1) * 3) = x := ⟨_, rfl⟩
          obtain ⟨aw61, eaw61⟩ : ∃ x, fn la ((i + 1) * 3 + 1) = x := ⟨_, rfl⟩
          obtain ⟨aw62, eaw62⟩ : ∃ x, fn la ((i + 1) * 3 + 2) = x := ⟨_, rfl⟩
          rw [eaw60, eaw61, eaw62] at Sw6 ⊢
          have HSw6 : Hid _ := Sw6
          obtain ⟨pw60, pw61, pw62, fw60, fw61, fw62, _⟩ := three_cells Tw6
          clear eaw60 eaw61 eaw62 gw6 nw6 Tw6 Sw6
          go_wp2_with fail
          refine ⟨Or.inl ⟨i + 1, k, c + 1, d', Z1, O ++ [fv, Z1, Z2], rfl, rfl, by omega, by omega, by show _ ≤ _; have := hd.out; omega, HST2, HSw6, by show _ = _; rw [← htt.out, HC2.out, List.append_assoc]⟩, by simp only [intOf]; omega⟩
      · have E1 : Hid (¬ fn la (i * 3 + 1) ≤ fn lb (k * 3 + 1)) := by show ¬ _; rw [hZ1, hY1]; exact e1
        have HC := cutR_snd (z := fn la) (y := fn lb) (n := n) (d := d') (f := fv) hst2.i_lt E1.out
        rw [hZ2, hY1] at HC
        have HC2 : Hid _ := HC
        have HST := hst.out.snd HT.out E1.out
        rw [hY1] at HST
        have HST2 : Hid _ := HST
        have hk1 : k + 1 < m := HST.k_lt
        have ey : (Z1 == Y1) = false := by simp; omega
        have e3 : Y1 < Z1 := by omega
        clear HC HST hst2 e1 hZ1 hZ2 hY1
        go_wp2_with (at_builtin; refine own_appendR (.tmp 28) (.tmp 34) HO2.out (by omega) HSZ.out rfl rfl rfl rfl ?_; intro v5 w5 o5 g5; have HS5 : Hid (Ms w w5 B PA NA PB NB G H (some ⟨ga, 0, none⟩) (some ⟨gb, 0, none⟩) n m ca cb la lb i k v5 (c + 1) (O ++ [fv, Y1, Z2])) := hms.out.app HLy.out o5 g5; have k1 : w5.cell? ⟨G, 1, none⟩ = some (.int .i64 Z1) := (three_cells HS5.out.g).2.1.trans (by rw [HZ1.out]); have k2 : w5.cell? ⟨H, 1, none⟩ = some (.int .i64 Y1) := (three_cells HS5.out.h).2.1.trans (by rw [HY1.out]); clear o5 g5 t0 t1 t2 u0 u1 u2)
        refine (HS5.out.callB HLy.out hk1 hm80).mono ?_
        rintro e w6 ⟨rfl, gw6, nw6⟩
        obtain ⟨Tw6, Sw6⟩ := HS5.out.nextB HLy.out gw6 nw6
        obtain ⟨aw60, eaw60⟩ : ∃ x, fn lb ((k + 1) * 3) = x := ⟨_, rfl⟩
        obtain ⟨aw61, eaw61⟩ : ∃ x, fn lb ((k + 1) * 3 + 1) = x := ⟨_, rfl⟩
        obtain ⟨aw62, eaw62⟩ : ∃ x, fn lb ((k + 1) * 3 + 2) = x := ⟨_, rfl⟩
        rw [eaw60, eaw61, eaw62] at Sw6 ⊢
        have HSw6 : Hid _ := Sw6
        obtain ⟨pw60, pw61, pw62, fw60, fw61, fw62, _⟩ := three_cells Tw6
        clear eaw60 eaw61 eaw62 gw6 nw6 Tw6 Sw6
        have r6 : (((w6.setCell ⟨H, 0, none⟩ (.int .i64 aw60)).setCell ⟨H, 1, none⟩ (.int .i64 aw61)).setCell ⟨H, 2, none⟩ (.int .i64 aw62)).cell? ⟨G, 1, none⟩ = some (.int .i64 Z1) := (three_cells HSw6.out.g).2.1.trans (by rw [HZ1.out])
        clear k1
        go_wp2_with fail
        refine ⟨Or.inl ⟨i, k + 1, c + 1, d', Y1, O ++ [fv, Y1, Z2], rfl, rfl, by omega, by omega, by show _ ≤ _; have := hd.out; omega, HST2, HSw6, by show _ = _; rw [← htt.out, HC2.out, List.append_assoc]⟩, by simp only [intOf]; omega⟩
    · go_wp2_with fail
      go_ret
      have h1 := HLy.out.h
      exact ⟨⟨_, c, rfl, by rw [HTT.out]; exact OwnR.mono ho.out (by omega)⟩, hbl.out⟩
end Go.Proofs.Ytgjhhfmhaalcnaa
