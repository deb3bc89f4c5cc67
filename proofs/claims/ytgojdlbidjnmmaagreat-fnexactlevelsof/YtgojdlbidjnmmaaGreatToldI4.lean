import Derived.Test.YtgojdlbidjnmmaaGreatToldI3
namespace Go.Proofs.YtgojdlbidjnmmaaGreat
open Go.ChangeShapes Go.WideShapes Go.ChangeAt Go.RowKit
set_option linter.unusedSimpArgs false
set_option linter.unusedVariables false

theorem stepI_op {c : Int} (f : Int) (s : TS) (h : c = 19 ∨ c = 20 ∨ c = 21) : stepT c f s = pushT s (rightT c f) 0 true := stepOp f s (by unfold opensB; simp; omega)
theorem stepI_other {c : Int} (f : Int) (s : TS) (h : ¬ (14 ≤ c ∧ c ≤ 22)) : stepT c f s = s := by
  unfold stepT
  rw [if_neg (by unfold opensB; simp; omega), if_neg (by omega), if_neg (by omega), if_neg (by omega), if_neg (by omega), if_neg (by omega), if_neg (by omega)]
theorem cut_ne {base : Int} {k : Nat} {s : TS} (h : GoodS base k s) : hasA s.st = true → ∃ y q, cutA s.st = y :: q := by
  intro ha
  obtain ⟨r, hr⟩ := h.last
  obtain ⟨r', hr'⟩ := cutA_last hr ha
  cases r' with
  | nil => exact ⟨_, _, hr'⟩
  | cons y q => exact ⟨_, _, hr'⟩

set_option maxHeartbeats 16000000 in
theorem implLetter {B T S gl gc n gm gq : Nat} {base : Int} {cs M lv cls : List Int} {top : Option Addr} {s : TS} (c : Nat → Int) (mt : Nat → Nat) (i : Nat) (w : World) (hi : i < n) (hn80 : n ≤ 1000) (hcs : cs.length = n) (hM : M.length = n) (hb0 : 0 ≤ base) (hB : B ≤ w.heap.size)
    (hc : Hid (∀ j, j < n → fn cs j = c j)) (hmt : Hid (MateFn c n mt)) (hsm : Hid (SameMates c n mt M)) (hg : GoodS base i s) (h : TIn w B T S gm gq gl gc n base cs M lv cls top s) :
    Calls Tryz.prog 59 #[.pointer (some ⟨T, 0, none⟩), .pointer (some ⟨S, 0, none⟩), .int .i64 i] w fun e w' => e = .returned (.tuple #[]) ∧ (∃ top', TIn w' B T S gm gq gl gc n base cs M (lvSet (c i) s (lv.set i (-1)) i) (clSet (c i) s cls i) top' (stepT (c i) (sideFrom c mt (mt i) (i + 1)) s)) ∧ Below B w w' := by
  have c1 := h.c1
  have c3 := h.c3
  obtain ⟨ck, hck⟩ : ∃ ck, c i = ck := ⟨_, rfl⟩
  have k1 := h.lin.am i (by omega)
  rw [hc.out i hi, hck, Nat.zero_add] at k1
  have hi0 : (0 : Int) ≤ (i : Int) := by omega
  have hi1 : (i : Int) < (n : Int) := by omega
  obtain ⟨fs, hfs⟩ : ∃ fs, sideFrom c mt (mt i) (i + 1) = fs := ⟨_, rfl⟩
  rw [hck, hfs]
  have HF : Hid _ := hfs
  have HCK : Hid _ := hck
  have kl := h.ol.cellN i hi
  have fl := h.ol.frozenN i
  have hik : i ≤ 1000 := by omega
  have hl0 := hg.lost0
  have hlk := hg.lostk
  have hs0 := hg.skip0
  have hsk := hg.skipk
  have hl1 : s.lost ≤ 1000 := by omega
  have hs1 : s.skip ≤ 1000 := by omega
  have hgt := good_top hg
  have ht0 : 0 ≤ topL s.st := by omega
  have ht1 : topL s.st ≤ 100 := by omega
  have HG : Hid _ := hg
  have HNE : Hid _ := good_ne hg
  have HCUT : Hid _ := cut_ne hg
  -- levels[at] = -1
  have H1 : Hid (TIn (w.setCell ⟨gl, i, none⟩ (.int .i64 (-1))) B T S gm gq gl gc n base cs M (lv.set i (-1)) cls top s) := h.setL i (-1)
  have B1 : Hid (Below B w (w.setCell ⟨gl, i, none⟩ (.int .i64 (-1)))) := h.blwL (Below.refl _ _) i _
  have HBs : B ≤ (w.setCell ⟨gl, i, none⟩ (.int .i64 (-1))).heap.size := by rw [World.size_setCell]; exact hB
  have HN : Hid _ := hcs
  have HM : Hid _ := hM
  clear h hck hfs hcs hM hg hgt hlk hsk
  obtain ⟨w1, hw1⟩ : ∃ w1, w.setCell ⟨gl, i, none⟩ (.int .i64 (-1)) = w1 := ⟨_, rfl⟩
  have HW1 : Hid _ := hw1
  rw [hw1] at H1 B1 HBs
  clear hw1
  have hpush : ∀ (w2 : World) (lv2 cls2 : List Int) (right : Bool) (side : Int) (alone : Bool) (d l0 : Int), d = dirOf right → Below B w w2 → B ≤ w2.heap.size → TIn w2 B T S gm gq gl gc n base cs M lv2 cls2 top s →
      Calls Tryz.prog 92 #[.pointer (some ⟨S, 0, none⟩), .agg #[.int .i64 l0, .int .i64 side, .bool alone, .pointer none], .int .i64 d] w2 fun e w' => e = .returned (.tuple #[]) ∧ (∃ top', TIn w' B T S gm gq gl gc n base cs M lv2 cls2 top' (pushT s right side alone)) ∧ Below B w w' := by
    intro w2 lv2 cls2 right side alone d l0 hd b2 hb2 h2
    refine (implPush w2 h2.st HNE.out ht0 ht1 hl0 hl1 hs0 hs1 right side alone l0 d hd).mono ?_
    rintro e w3 ⟨rfl, ⟨top', h3⟩, g3⟩
    exact ⟨rfl, ⟨top', h2.stack g3 h3⟩, h2.blwS b2 hb2 g3⟩
  have HP : Hid _ := hpush
  clear hpush
  by_cases q10 : ck = 10
  · subst q10
    rw [show stepT 10 fs s = s from rfl, show lvSet 10 s (lv.set i (-1)) i = lv.set i (-1) from rfl, show clSet 10 s cls i = cls from rfl]
    go_enter Tryz.func59, Tryz.ntmps59
    go_wp2_with fail
    refine bodyPost_ret (results_none rfl _ _ _) rfl ?_
    rw [HW1.out]
    exact ⟨rfl, ⟨_, H1.out⟩, B1.out⟩
  by_cases q14 : ck = 14
  · subst q14
    rw [show stepT 14 fs s = pushT s false 0 false from rfl, show lvSet 14 s (lv.set i (-1)) i = lv.set i (-1) from rfl, show clSet 14 s cls i = cls from rfl]
    go_enter Tryz.func59, Tryz.ntmps59
    go_wp2_with fail
    rw [HW1.out]
    refine (HP.out _ _ _ false _ _ _ _ rfl B1.out HBs H1.out).mono ?_
    rintro e w2 ⟨rfl, h2, b2⟩
    go_wp2_with fail
    refine bodyPost_ret (results_none rfl _ _ _) rfl ?_
    exact ⟨rfl, h2, b2⟩
  by_cases q15 : ck = 15
  · subst q15
    rw [show stepT 15 fs s = pushT s true 0 false from rfl, show lvSet 15 s (lv.set i (-1)) i = lv.set i (-1) from rfl, show clSet 15 s cls i = cls from rfl]
    go_enter Tryz.func59, Tryz.ntmps59
    go_wp2_with fail
    rw [HW1.out]
    refine (HP.out _ _ _ true _ _ _ _ rfl B1.out HBs H1.out).mono ?_
    rintro e w2 ⟨rfl, h2, b2⟩
    go_wp2_with fail
    refine bodyPost_ret (results_none rfl _ _ _) rfl ?_
    exact ⟨rfl, h2, b2⟩
  by_cases q17 : ck = 17
  · subst q17
    rw [show stepT 17 fs s = pushT s false 1 false from rfl, show lvSet 17 s (lv.set i (-1)) i = lv.set i (-1) from rfl, show clSet 17 s cls i = cls from rfl]
    go_enter Tryz.func59, Tryz.ntmps59
    go_wp2_with fail
    rw [HW1.out]
    refine (HP.out _ _ _ false _ _ _ _ rfl B1.out HBs H1.out).mono ?_
    rintro e w2 ⟨rfl, h2, b2⟩
    go_wp2_with fail
    refine bodyPost_ret (results_none rfl _ _ _) rfl ?_
    exact ⟨rfl, h2, b2⟩
  by_cases q18 : ck = 18
  · subst q18
    rw [show stepT 18 fs s = pushT s true 2 false from rfl, show lvSet 18 s (lv.set i (-1)) i = lv.set i (-1) from rfl, show clSet 18 s cls i = cls from rfl]
    go_enter Tryz.func59, Tryz.ntmps59
    go_wp2_with fail
    rw [HW1.out]
    refine (HP.out _ _ _ true _ _ _ _ rfl B1.out HBs H1.out).mono ?_
    rintro e w2 ⟨rfl, h2, b2⟩
    go_wp2_with fail
    refine bodyPost_ret (results_none rfl _ _ _) rfl ?_
    exact ⟨rfl, h2, b2⟩
  by_cases q16 : ck = 16
  · subst q16
    rw [show stepT 16 fs s = dropT s from rfl, show lvSet 16 s (lv.set i (-1)) i = lv.set i (-1) from rfl, show clSet 16 s cls i = cls from rfl]
    go_enter Tryz.func59, Tryz.ntmps59
    go_wp2_with fail
    rw [HW1.out]
    refine (implEmb _ H1.out.st HNE.out hl0 hs0 hs1).mono ?_
    rintro e w2 ⟨rfl, ⟨top2, h2⟩, g2⟩
    go_wp2_with fail
    refine bodyPost_ret (results_none rfl _ _ _) rfl ?_
    exact ⟨rfl, ⟨top2, H1.out.stack g2 h2⟩, H1.out.blwS B1.out HBs g2⟩
  -- what stands on top, in a world and a state
  have htop : ∀ (w2 : World) (lv2 cls2 : List Int) (top2 : Option Addr) (s2 : TS), GoodS base i s2 → Below B w w2 → B ≤ w2.heap.size → TIn w2 B T S gm gq gl gc n base cs M lv2 cls2 top2 s2 →
      ∃ b, top2 = some ⟨b, 0, none⟩ ∧ (¬ gl = b ∧ ¬ gc = b) ∧ w2.cell? ⟨b, 0, none⟩ = some (.int .i64 (topL s2.st)) ∧ w2.cell? ⟨b, 1, none⟩ = some (.int .i64 (topS s2.st)) := by
    intro w2 lv2 cls2 top2 s2 g2 b2 hb2 h2
    obtain ⟨x, r, hx⟩ := good_ne g2
    have hlk := h2.st.lk
    rw [hx] at hlk ⊢
    obtain ⟨b, nx, e, hb1, _, n0, n1, _⟩ := hlk
    simp only [Value.pointer.injEq] at e
    exact ⟨b, e, ⟨fun e2 => hb1 (.inr (.inr (.inl e2.symm))), fun e2 => hb1 (.inr (.inr (.inr e2.symm)))⟩, n0, n1⟩
  have HTOP : Hid _ := htop
  clear htop
  by_cases q22 : ck = 22
  · subst q22
    rw [show stepT 22 fs s = endT s from rfl, show lvSet 22 s (lv.set i (-1)) i = (lv.set i (-1)).set i (topL (endT s).st) from rfl, show clSet 22 s cls i = cls.set i (sdT (endT s).st 22) from rfl, List.set_set]
    have HOB : Hid (opensB 22 = false) := by show _ = _; decide
    obtain ⟨s2, hs2⟩ : ∃ s2, endT s = s2 := ⟨_, rfl⟩
    have HG2 : Hid (GoodS base i s2) := by rw [← hs2]; exact good_end HG.out
    rw [hs2]
    have HS2 : Hid _ := hs2
    clear hs2
    go_enter Tryz.func59, Tryz.ntmps59
    go_wp2_with fail
    rw [HW1.out]
    refine (implAlone _ H1.out.st HCUT.out hl0 hl1).mono ?_
    rintro e w2 ⟨rfl, ⟨top2, h2⟩, g2⟩
    have H2 := H1.out.stack g2 h2
    have B2 := H1.out.blwS B1.out HBs g2
    rw [HS2.out] at H2
    have HH2 : Hid (TIn w2 B T S gm gq gl gc n base cs M (lv.set i (-1)) cls top2 s2) := H2
    have HB2 : Hid (Below B w w2) := B2
    have HBs2 : B ≤ w2.heap.size := Nat.le_trans hB B2.size
    clear H2 B2 h2 g2
    obtain ⟨b, rfl, ⟨nb1, nb2⟩, t0, t1⟩ := HTOP.out _ _ _ _ _ HG2.out HB2.out HBs2 HH2.out
    obtain ⟨tl, htl⟩ : ∃ tl, topL s2.st = tl := ⟨_, rfl⟩
    obtain ⟨ts, hts⟩ : ∃ ts, topS s2.st = ts := ⟨_, rfl⟩
    obtain ⟨sd, hsdd⟩ : ∃ sd, sdT s2.st 22 = sd := ⟨_, rfl⟩
    have hsd : sd = if ts ≠ 0 then ts else 22 := by rw [← hsdd]; unfold sdT; rw [hts]
    have HTL : Hid _ := htl
    have HSDD : Hid _ := hsdd
    rw [htl] at t0
    rw [hts] at t1
    have c3 := HH2.out.c3
    have c4 := HH2.out.c4
    have s0 := HH2.out.st.c0
    have kl := HH2.out.ol.cellN i hi
    have fl := HH2.out.ol.frozenN i
    have kc := HH2.out.oc.cellN i hi
    have fc := HH2.out.oc.frozenN i
    have n1 : ¬ gl = gc := HH2.out.nlc
    have n2 : ¬ gl = T := HH2.out.nTl
    have n3 : ¬ gc = T := HH2.out.nTc
    have n4 : ¬ gl = S := HH2.out.nSl
    have n5 : ¬ gc = S := HH2.out.nSc
    have FA : Hid (∀ q, TIn (((w2.setCell ⟨gl, i, none⟩ (.int .i64 tl)).setCell ⟨gc, i, none⟩ (.int .i64 22)).drewN q) B T S gm gq gl gc n base cs M (lv.set i tl) (cls.set i 22) (some ⟨b, 0, none⟩) s2 ∧ Below B w (((w2.setCell ⟨gl, i, none⟩ (.int .i64 tl)).setCell ⟨gc, i, none⟩ (.int .i64 22)).drewN q)) := by
      have a := (HH2.out.setL i tl).setC i 22
      rw [List.set_set] at a
      exact fun q => ⟨a.below (below_draws _ q), (((HH2.out.setL i tl).blwC (HH2.out.blwL HB2.out i _) i _).trans ((below_draws _ q).mono (by simp only [World.size_setCell]; first | exact HBs2 | exact HBs)))⟩
    have FB : Hid (∀ q, TIn ((((w2.setCell ⟨gl, i, none⟩ (.int .i64 tl)).setCell ⟨gc, i, none⟩ (.int .i64 22)).setCell ⟨gc, i, none⟩ (.int .i64 ts)).drewN q) B T S gm gq gl gc n base cs M (lv.set i tl) (cls.set i ts) (some ⟨b, 0, none⟩) s2 ∧ Below B w ((((w2.setCell ⟨gl, i, none⟩ (.int .i64 tl)).setCell ⟨gc, i, none⟩ (.int .i64 22)).setCell ⟨gc, i, none⟩ (.int .i64 ts)).drewN q)) := by
      have a := ((HH2.out.setL i tl).setC i 22).setC i ts
      rw [List.set_set, List.set_set] at a
      exact fun q => ⟨a.below (below_draws _ q), ((((HH2.out.setL i tl).setC i 22).blwC ((HH2.out.setL i tl).blwC (HH2.out.blwL HB2.out i _) i _) i _).trans ((below_draws _ q).mono (by simp only [World.size_setCell]; first | exact HBs2 | exact HBs)))⟩
    have HSD : Hid _ := hsd
    clear hsd htl hts hsdd
    by_cases hz : ts = 0
    · have hz1 : (ts != 0) = false := by simpa using hz
      have HE : Hid (sd = 22) := by show _ = _; rw [HSD.out]; exact if_neg (by rw [hz]; simp)
      clear hz
      go_wp2_with fail
      go_region_held3 (fun w' => w'.cell? ⟨T, 3, none⟩ = some (.slice (some ⟨gl, 0, none⟩) n n) ∧ w'.cell? ⟨T, 4, none⟩ = some (.slice (some ⟨gc, 0, none⟩) n n) ∧ w'.cell? ⟨S, 0, none⟩ = some (.pointer (some ⟨b, 0, none⟩)) ∧ w'.cell? ⟨b, 0, none⟩ = some (.int .i64 tl)) (go_keep) (fail)
      go_wp2_with fail
      refine (implOpens _ _).mono ?_
      rintro e w5 ⟨rfl, rfl⟩
      rw [HOB.out]
      go_wp2_with fail
      go_end0
      rw [HTL.out, HSDD.out, HE.out]
      exact ⟨rfl, ⟨_, (FA.out 1).1⟩, (FA.out 1).2⟩
    · have hz1 : (ts != 0) = true := by simpa using hz
      have HE : Hid (sd = ts) := by show _ = _; rw [HSD.out]; exact if_pos (by exact hz)
      clear hz
      go_wp2_with fail
      go_region_held3 (fun w' => w'.cell? ⟨T, 3, none⟩ = some (.slice (some ⟨gl, 0, none⟩) n n) ∧ w'.cell? ⟨T, 4, none⟩ = some (.slice (some ⟨gc, 0, none⟩) n n) ∧ w'.cell? ⟨S, 0, none⟩ = some (.pointer (some ⟨b, 0, none⟩)) ∧ w'.cell? ⟨b, 0, none⟩ = some (.int .i64 tl)) (go_keep) (fail)
      go_wp2_with fail
      go_region_held3 (fun w' => w'.cell? ⟨T, 4, none⟩ = some (.slice (some ⟨gc, 0, none⟩) n n) ∧ w'.cell? ⟨S, 0, none⟩ = some (.pointer (some ⟨b, 0, none⟩)) ∧ w'.cell? ⟨b, 1, none⟩ = some (.int .i64 ts)) (go_keep) (fail)
      go_wp2_with fail
      refine (implOpens _ _).mono ?_
      rintro e w5 ⟨rfl, rfl⟩
      rw [HOB.out]
      go_wp2_with fail
      go_end0
      rw [HTL.out, HSDD.out, HE.out]
      exact ⟨rfl, ⟨_, (FB.out 2).1⟩, (FB.out 2).2⟩
  by_cases qop : ck = 19 ∨ ck = 20 ∨ ck = 21
  · have hel : lvSet ck s (lv.set i (-1)) i = lv.set i (topL s.st) := by unfold lvSet atT; rw [if_neg (by unfold tellsB; simp; omega), if_neg q22, List.set_set]
    have hec : clSet ck s cls i = cls.set i (sdT s.st ck) := by unfold clSet atT; rw [if_neg (by unfold tellsB; simp; omega), if_neg q22]
    have HOB : Hid (opensB ck = true) := by show _ = _; unfold opensB; simp; omega
    rw [stepI_op fs s qop, hel, hec]
    have p14 : (ck == 14) = false := by simpa using q14
    have p15 : (ck == 15) = false := by simpa using q15
    have p16 : (ck == 16) = false := by simpa using q16
    have p17 : (ck == 17) = false := by simpa using q17
    have p18 : (ck == 18) = false := by simpa using q18
    have p10 : (ck == 10) = false := by simpa using q10
    have p22 : (ck == 22) = false := by simpa using q22
    clear q10 q14 q15 q16 q17 q18 q22 qop hel hec
    obtain ⟨b, rfl, ⟨nb1, nb2⟩, t0, t1⟩ := HTOP.out _ _ _ _ _ HG.out B1.out HBs H1.out
    obtain ⟨tl, htl⟩ : ∃ tl, topL s.st = tl := ⟨_, rfl⟩
    obtain ⟨ts, hts⟩ : ∃ ts, topS s.st = ts := ⟨_, rfl⟩
    obtain ⟨sd, hsdd⟩ : ∃ sd, sdT s.st ck = sd := ⟨_, rfl⟩
    have hsd : sd = if ts ≠ 0 then ts else ck := by rw [← hsdd]; unfold sdT; rw [hts]
    have HTL : Hid _ := htl
    have HSDD : Hid _ := hsdd
    rw [htl] at t0
    rw [hts] at t1
    have c3 := H1.out.c3
    have c4 := H1.out.c4
    have s0 := H1.out.st.c0
    have kl := H1.out.ol.cellN i hi
    have fl := H1.out.ol.frozenN i
    have kc := H1.out.oc.cellN i hi
    have fc := H1.out.oc.frozenN i
    have n1 : ¬ gl = gc := H1.out.nlc
    have n2 : ¬ gl = T := H1.out.nTl
    have n3 : ¬ gc = T := H1.out.nTc
    have n4 : ¬ gl = S := H1.out.nSl
    have n5 : ¬ gc = S := H1.out.nSc
    have FA : Hid (∀ q, TIn (((w1.setCell ⟨gl, i, none⟩ (.int .i64 tl)).setCell ⟨gc, i, none⟩ (.int .i64 ck)).drewN q) B T S gm gq gl gc n base cs M (lv.set i tl) (cls.set i ck) (some ⟨b, 0, none⟩) s ∧ Below B w (((w1.setCell ⟨gl, i, none⟩ (.int .i64 tl)).setCell ⟨gc, i, none⟩ (.int .i64 ck)).drewN q)) := by
      have a := (H1.out.setL i tl).setC i ck
      rw [List.set_set] at a
      exact fun q => ⟨a.below (below_draws _ q), (((H1.out.setL i tl).blwC (H1.out.blwL B1.out i _) i _).trans ((below_draws _ q).mono (by simp only [World.size_setCell]; first | exact HBs2 | exact HBs)))⟩
    have FB : Hid (∀ q, TIn ((((w1.setCell ⟨gl, i, none⟩ (.int .i64 tl)).setCell ⟨gc, i, none⟩ (.int .i64 ck)).setCell ⟨gc, i, none⟩ (.int .i64 ts)).drewN q) B T S gm gq gl gc n base cs M (lv.set i tl) (cls.set i ts) (some ⟨b, 0, none⟩) s ∧ Below B w ((((w1.setCell ⟨gl, i, none⟩ (.int .i64 tl)).setCell ⟨gc, i, none⟩ (.int .i64 ck)).setCell ⟨gc, i, none⟩ (.int .i64 ts)).drewN q)) := by
      have a := ((H1.out.setL i tl).setC i ck).setC i ts
      rw [List.set_set, List.set_set] at a
      exact fun q => ⟨a.below (below_draws _ q), ((((H1.out.setL i tl).setC i ck).blwC ((H1.out.setL i tl).blwC (H1.out.blwL B1.out i _) i _) i _).trans ((below_draws _ q).mono (by simp only [World.size_setCell]; first | exact HBs2 | exact HBs)))⟩
    have HSD : Hid _ := hsd
    clear hsd htl hts hsdd ht0 ht1
    by_cases hz : ts = 0
    · have hz1 : (ts != 0) = false := by simpa using hz
      have HE : Hid (sd = ck) := by show _ = _; rw [HSD.out]; exact if_neg (by rw [hz]; simp)
      clear hz
      go_enter Tryz.func59, Tryz.ntmps59
      go_wp2_with fail
      rw [HW1.out]
      go_region_held3 (fun w' => w'.cell? ⟨T, 3, none⟩ = some (.slice (some ⟨gl, 0, none⟩) n n) ∧ w'.cell? ⟨T, 4, none⟩ = some (.slice (some ⟨gc, 0, none⟩) n n) ∧ w'.cell? ⟨S, 0, none⟩ = some (.pointer (some ⟨b, 0, none⟩)) ∧ w'.cell? ⟨b, 0, none⟩ = some (.int .i64 tl)) (go_keep) (fail)
      go_wp2_with fail
      refine (implOpens _ _).mono ?_
      rintro e w5 ⟨rfl, rfl⟩
      rw [HOB.out]
      go_wp2_with fail
      refine (implOpened c mt i _ hi hn80 HN.out HM.out (by rw [HCK.out]; exact HOB.out) hc hmt hsm (FA.out 1).1).mono ?_
      rintro e w6 ⟨rfl, m6, rfl⟩
      rw [HCK.out, HF.out]
      go_wp2_with fail
      refine (HP.out _ _ _ _ _ _ _ _ rfl (FA.out _).2 (Nat.le_trans hB (FA.out _).2.size) (FA.out _).1).mono ?_
      rintro e w7 ⟨rfl, h7, b7⟩
      go_wp2_with fail
      go_end0
      rw [HTL.out, HSDD.out, HE.out]
      exact ⟨rfl, h7, b7⟩
    · have hz1 : (ts != 0) = true := by simpa using hz
      have HE : Hid (sd = ts) := by show _ = _; rw [HSD.out]; exact if_pos (by exact hz)
      clear hz
      go_enter Tryz.func59, Tryz.ntmps59
      go_wp2_with fail
      rw [HW1.out]
      go_region_held3 (fun w' => w'.cell? ⟨T, 3, none⟩ = some (.slice (some ⟨gl, 0, none⟩) n n) ∧ w'.cell? ⟨T, 4, none⟩ = some (.slice (some ⟨gc, 0, none⟩) n n) ∧ w'.cell? ⟨S, 0, none⟩ = some (.pointer (some ⟨b, 0, none⟩)) ∧ w'.cell? ⟨b, 0, none⟩ = some (.int .i64 tl)) (go_keep) (fail)
      go_wp2_with fail
      go_region_held3 (fun w' => w'.cell? ⟨T, 4, none⟩ = some (.slice (some ⟨gc, 0, none⟩) n n) ∧ w'.cell? ⟨S, 0, none⟩ = some (.pointer (some ⟨b, 0, none⟩)) ∧ w'.cell? ⟨b, 1, none⟩ = some (.int .i64 ts)) (go_keep) (fail)
      go_wp2_with fail
      refine (implOpens _ _).mono ?_
      rintro e w5 ⟨rfl, rfl⟩
      rw [HOB.out]
      go_wp2_with fail
      refine (implOpened c mt i _ hi hn80 HN.out HM.out (by rw [HCK.out]; exact HOB.out) hc hmt hsm (FB.out 2).1).mono ?_
      rintro e w6 ⟨rfl, m6, rfl⟩
      rw [HCK.out, HF.out]
      go_wp2_with fail
      refine (HP.out _ _ _ _ _ _ _ _ rfl (FB.out _).2 (Nat.le_trans hB (FB.out _).2.size) (FB.out _).1).mono ?_
      rintro e w7 ⟨rfl, h7, b7⟩
      go_wp2_with fail
      go_end0
      rw [HTL.out, HSDD.out, HE.out]
      exact ⟨rfl, h7, b7⟩
  have hno : ¬ (14 ≤ ck ∧ ck ≤ 22) := by omega
  have hel : lvSet ck s (lv.set i (-1)) i = lv.set i (topL s.st) := by unfold lvSet atT; rw [if_neg (by unfold tellsB; simp; omega), if_neg q22, List.set_set]
  have hec : clSet ck s cls i = cls.set i (sdT s.st ck) := by unfold clSet atT; rw [if_neg (by unfold tellsB; simp; omega), if_neg q22]
  have HOB : Hid (opensB ck = false) := by show _ = _; unfold opensB; simp; omega
  rw [stepI_other fs s hno, hel, hec]
  have p14 : (ck == 14) = false := by simpa using q14
  have p15 : (ck == 15) = false := by simpa using q15
  have p16 : (ck == 16) = false := by simpa using q16
  have p17 : (ck == 17) = false := by simpa using q17
  have p18 : (ck == 18) = false := by simpa using q18
  have p10 : (ck == 10) = false := by simpa using q10
  have p22 : (ck == 22) = false := by simpa using q22
  clear q10 q14 q15 q16 q17 q18 q22 qop hno hel hec
  obtain ⟨b, rfl, ⟨nb1, nb2⟩, t0, t1⟩ := HTOP.out _ _ _ _ _ HG.out B1.out HBs H1.out
  obtain ⟨tl, htl⟩ : ∃ tl, topL s.st = tl := ⟨_, rfl⟩
  obtain ⟨ts, hts⟩ : ∃ ts, topS s.st = ts := ⟨_, rfl⟩
  obtain ⟨sd, hsdd⟩ : ∃ sd, sdT s.st ck = sd := ⟨_, rfl⟩
  have hsd : sd = if ts ≠ 0 then ts else ck := by rw [← hsdd]; unfold sdT; rw [hts]
  have HTL : Hid _ := htl
  have HSDD : Hid _ := hsdd
  rw [htl] at t0
  rw [hts] at t1
  have c3 := H1.out.c3
  have c4 := H1.out.c4
  have s0 := H1.out.st.c0
  have kl := H1.out.ol.cellN i hi
  have fl := H1.out.ol.frozenN i
  have kc := H1.out.oc.cellN i hi
  have fc := H1.out.oc.frozenN i
  have n1 : ¬ gl = gc := H1.out.nlc
  have n2 : ¬ gl = T := H1.out.nTl
  have n3 : ¬ gc = T := H1.out.nTc
  have n4 : ¬ gl = S := H1.out.nSl
  have n5 : ¬ gc = S := H1.out.nSc
  have FA : Hid (∀ q, TIn (((w1.setCell ⟨gl, i, none⟩ (.int .i64 tl)).setCell ⟨gc, i, none⟩ (.int .i64 ck)).drewN q) B T S gm gq gl gc n base cs M (lv.set i tl) (cls.set i ck) (some ⟨b, 0, none⟩) s ∧ Below B w (((w1.setCell ⟨gl, i, none⟩ (.int .i64 tl)).setCell ⟨gc, i, none⟩ (.int .i64 ck)).drewN q)) := by
    have a := (H1.out.setL i tl).setC i ck
    rw [List.set_set] at a
    exact fun q => ⟨a.below (below_draws _ q), (((H1.out.setL i tl).blwC (H1.out.blwL B1.out i _) i _).trans ((below_draws _ q).mono (by simp only [World.size_setCell]; first | exact HBs2 | exact HBs)))⟩
  have FB : Hid (∀ q, TIn ((((w1.setCell ⟨gl, i, none⟩ (.int .i64 tl)).setCell ⟨gc, i, none⟩ (.int .i64 ck)).setCell ⟨gc, i, none⟩ (.int .i64 ts)).drewN q) B T S gm gq gl gc n base cs M (lv.set i tl) (cls.set i ts) (some ⟨b, 0, none⟩) s ∧ Below B w ((((w1.setCell ⟨gl, i, none⟩ (.int .i64 tl)).setCell ⟨gc, i, none⟩ (.int .i64 ck)).setCell ⟨gc, i, none⟩ (.int .i64 ts)).drewN q)) := by
    have a := ((H1.out.setL i tl).setC i ck).setC i ts
    rw [List.set_set, List.set_set] at a
    exact fun q => ⟨a.below (below_draws _ q), ((((H1.out.setL i tl).setC i ck).blwC ((H1.out.setL i tl).blwC (H1.out.blwL B1.out i _) i _) i _).trans ((below_draws _ q).mono (by simp only [World.size_setCell]; first | exact HBs2 | exact HBs)))⟩
  have HSD : Hid _ := hsd
  clear hsd htl hts hsdd ht0 ht1
  by_cases hz : ts = 0
  · have hz1 : (ts != 0) = false := by simpa using hz
    have HE : Hid (sd = ck) := by show _ = _; rw [HSD.out]; exact if_neg (by rw [hz]; simp)
    clear hz
    go_enter Tryz.func59, Tryz.ntmps59
    go_wp2_with fail
    rw [HW1.out]
    go_region_held3 (fun w' => w'.cell? ⟨T, 3, none⟩ = some (.slice (some ⟨gl, 0, none⟩) n n) ∧ w'.cell? ⟨T, 4, none⟩ = some (.slice (some ⟨gc, 0, none⟩) n n) ∧ w'.cell? ⟨S, 0, none⟩ = some (.pointer (some ⟨b, 0, none⟩)) ∧ w'.cell? ⟨b, 0, none⟩ = some (.int .i64 tl)) (go_keep) (fail)
    go_wp2_with fail
    refine (implOpens _ _).mono ?_
    rintro e w5 ⟨rfl, rfl⟩
    rw [HOB.out]
    go_wp2_with fail
    go_end0
    rw [HTL.out, HSDD.out, HE.out]
    exact ⟨rfl, ⟨_, (FA.out 1).1⟩, (FA.out 1).2⟩
  · have hz1 : (ts != 0) = true := by simpa using hz
    have HE : Hid (sd = ts) := by show _ = _; rw [HSD.out]; exact if_pos (by exact hz)
    clear hz
    go_enter Tryz.func59, Tryz.ntmps59
    go_wp2_with fail
    rw [HW1.out]
    go_region_held3 (fun w' => w'.cell? ⟨T, 3, none⟩ = some (.slice (some ⟨gl, 0, none⟩) n n) ∧ w'.cell? ⟨T, 4, none⟩ = some (.slice (some ⟨gc, 0, none⟩) n n) ∧ w'.cell? ⟨S, 0, none⟩ = some (.pointer (some ⟨b, 0, none⟩)) ∧ w'.cell? ⟨b, 0, none⟩ = some (.int .i64 tl)) (go_keep) (fail)
    go_wp2_with fail
    go_region_held3 (fun w' => w'.cell? ⟨T, 4, none⟩ = some (.slice (some ⟨gc, 0, none⟩) n n) ∧ w'.cell? ⟨S, 0, none⟩ = some (.pointer (some ⟨b, 0, none⟩)) ∧ w'.cell? ⟨b, 1, none⟩ = some (.int .i64 ts)) (go_keep) (fail)
    go_wp2_with fail
    refine (implOpens _ _).mono ?_
    rintro e w5 ⟨rfl, rfl⟩
    rw [HOB.out]
    go_wp2_with fail
    go_end0
    rw [HTL.out, HSDD.out, HE.out]
    exact ⟨rfl, ⟨_, (FB.out 2).1⟩, (FB.out 2).2⟩
end Go.Proofs.YtgojdlbidjnmmaaGreat
