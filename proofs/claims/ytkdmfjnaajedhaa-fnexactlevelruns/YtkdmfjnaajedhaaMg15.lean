import Derived.Test.YtkdmfjnaajedhaaMg14
import Derived.Test.YtkdmfjnaajedhaaMg11
import Derived.Test.YtkdmfjnaajedhaaMg7
import Derived.Test.YtkdmfjnaajedhaaMg12
import Derived.Test.YtkdmfjnaajedhaaMg6
import Derived.Test.YtkdmfjnaajedhaaMg13
import Derived.Deep.CutRange
namespace Go.Proofs.Ytkdmfjnaajedhaa
open Go.ChangeShapes Go.WideShapes Go.ChangeAt Go.RowKit
set_option linter.unusedSimpArgs false
set_option linter.unusedVariables false

theorem stepI_op {c : Int} (f : Int) (s : TS) (h : c = 19 ∨ c = 20 ∨ c = 21) : stepT c f s = pushT s (rightT c f) 0 true := stepOp f s (by unfold opensB; simp; omega)
theorem stepI_other {c : Int} (f : Int) (s : TS) (h : ¬ (14 ≤ c ∧ c ≤ 22)) : stepT c f s = s := by
  unfold stepT
  rw [if_neg (by unfold opensB; simp; omega), if_neg (by omega), if_neg (by omega), if_neg (by omega), if_neg (by omega), if_neg (by omega), if_neg (by omega)]
theorem cut_ne {base : Int} {k : Nat} {s : TS} (h : GoodS base k s) : hasA s.st = true → ∃ y q, cutA s.st = y :: q := by
  intro ha
  obtain ⟨r, hr⟩ := h.last
  obtain ⟨r', hr'⟩ := cutA_last hr ha
  cases r' with
  | nil => exact ⟨_, _, hr'⟩
  | cons y q => exact ⟨_, _, hr'⟩

set_option maxHeartbeats 16000000 in
theorem implLetter {B T S gl gc n gm gq : Nat} {base : Int} {cs M lv cls : List Int} {top : Option Addr} {s : TS} (c : Nat → Int) (mt : Nat → Nat) (i : Nat) (w : World) (hi : i < n) (hn80 : n ≤ 1000) (hcs : cs.length = n) (hM : M.length = n) (hb0 : 0 ≤ base) (hB : B ≤ w.heap.size)
    (hc : Hid (∀ j, j < n → fn cs j = c j)) (hmt : Hid (MateFn c n mt)) (hsm : Hid (SameMates c n mt M)) (hg : GoodS base i s) (h : TIn w B T S gm gq gl gc n base cs M lv cls top s) :
    Calls Try.prog 37 #[.pointer (some ⟨T, 0, none⟩), .pointer (some ⟨S, 0, none⟩), .int .i64 i] w fun e w' => e = .returned (.tuple #[]) ∧ (∃ top', TIn w' B T S gm gq gl gc n base cs M (lvSet (c i) s (lv.set i (-1)) i) (clSet (c i) s cls i) top' (stepT (c i) (sideFrom c mt (mt i) (i + 1)) s)) ∧ Below B w w' := by
  have c1 := h.c1
  have c3 := h.c3
  obtain ⟨ck, hck⟩ : ∃ ck, c i = ck := ⟨_, rfl⟩
  have k1 := h.lin.am i (by omega)
  rw [hc.out i hi, hck, Nat.zero_add] at k1
  have hi0 : (0 : Int) ≤ (i : Int) := by omega
  have hi1 : (i : Int) < (n : Int) := by omega
  obtain ⟨fs, hfs⟩ : ∃ fs, sideFrom c mt (mt i) (i + 1) = fs := ⟨_, rfl⟩
  rw [hck, hfs]
  have HF : Hid _ := hfs
  have HCK : Hid _ := hck
  have kl := h.ol.cellN i hi
  have fl := h.ol.frozenN i
  have hik : i ≤ 1000 := by omega
  have hl0 := hg.lost0
  have hlk := hg.lostk
  have hs0 := hg.skip0
  have hsk := hg.skipk
  have hl1 : s.lost ≤ 1000 := by omega
  have hs1 : s.skip ≤ 1000 := by omega
  have hgt := good_top hg
  have ht0 : 0 ≤ topL s.st := by omega
  have ht1 : topL s.st ≤ 100 := by omega
  have HG : Hid _ := hg
  have HNE : Hid _ := good_ne hg
  have HCUT : Hid _ := cut_ne hg
  -- levels[at] = -1
  have H1 : Hid (TIn (w.setCell ⟨gl, i, none⟩ (.int .i64 (-1))) B T S gm gq gl gc n base cs M (lv.set i (-1)) cls top s) := h.setL i (-1)
  have B1 : Hid (Below B w (w.setCell ⟨gl, i, none⟩ (.int .i64 (-1)))) := h.blwL (Below.refl _ _) i _
  have HBs : B ≤ (w.setCell ⟨gl, i, none⟩ (.int .i64 (-1))).heap.size := by rw [World.size_setCell]; exact hB
  have HN : Hid _ := hcs
  have HM : Hid _ := hM
  clear h hck hfs hcs hM hg hgt hlk hsk
  obtain ⟨w1, hw1⟩ : ∃ w1, w.setCell ⟨gl, i, none⟩ (.int .i64 (-1)) = w1 := ⟨_, rfl⟩
  have HW1 : Hid _ := hw1
  rw [hw1] at H1 B1 HBs
  clear hw1
  have hpush : ∀ (w2 : World) (lv2 cls2 : List Int) (right : Bool) (side : Int) (alone : Bool) (d l0 : Int), d = dirOf right → Below B w w2 → B ≤ w2.heap.size → TIn w2 B T S gm gq gl gc n base cs M lv2 cls2 top s →
      Calls Try.prog 59 #[.pointer (some ⟨S, 0, none⟩), .agg #[.int .i64 l0, .int .i64 side, .bool alone, .pointer none], .int .i64 d] w2 fun e w' => e = .returned (.tuple #[]) ∧ (∃ top', TIn w' B T S gm gq gl gc n base cs M lv2 cls2 top' (pushT s right side alone)) ∧ Below B w w' := by
    intro w2 lv2 cls2 right side alone d l0 hd b2 hb2 h2
    refine (implPush w2 h2.st HNE.out ht0 ht1 hl0 hl1 hs0 hs1 right side alone l0 d hd).mono ?_
    rintro e w3 ⟨rfl, ⟨top', h3⟩, g3⟩
    exact ⟨rfl, ⟨top', h2.stack g3 h3⟩, h2.blwS b2 hb2 g3⟩
  have HP : Hid _ := hpush
  clear hpush
  by_cases q10 : ck = 10
  · subst q10
    rw [show stepT 10 fs s = s from rfl, show lvSet 10 s (lv.set i (-1)) i = lv.set i (-1) from rfl, show clSet 10 s cls i = cls from rfl]
    go_enter Try.func37, Try.ntmps37
    go_wp2_with fail
    refine bodyPost_ret (results_none rfl _ _ _) rfl ?_
    rw [HW1.out]
    exact ⟨rfl, ⟨_, H1.out⟩, B1.out⟩
  by_cases q14 : ck = 14
  · subst q14
    rw [show stepT 14 fs s = pushT s false 0 false from rfl, show lvSet 14 s (lv.set i (-1)) i = lv.set i (-1) from rfl, show clSet 14 s cls i = cls from rfl]
    go_enter Try.func37, Try.ntmps37
    go_wp2_with fail
    rw [HW1.out]
    refine (HP.out _ _ _ false _ _ _ _ rfl B1.out HBs H1.out).mono ?_
    rintro e w2 ⟨rfl, h2, b2⟩
    go_wp2_with fail
    refine bodyPost_ret (results_none rfl _ _ _) rfl ?_
    exact ⟨rfl, h2, b2⟩
  by_cases q15 : ck = 15
  · subst q15
    rw [show stepT 15 fs s = pushT s true 0 false from rfl, show lvSet 15 s (lv.set i (-1)) i = lv.set i (-1) from rfl, show clSet 15 s cls i = cls from rfl]
    go_enter Try.func37, Try.ntmps37
    go_wp2_with fail
    rw [HW1.out]
    refine (HP.out _ _ _ true _ _ _ _ rfl B1.out HBs H1.out).mono ?_
    rintro e w2 ⟨rfl, h2, b2⟩
    go_wp2_with fail
    refine bodyPost_ret (results_none rfl _ _ _) rfl ?_
    exact ⟨rfl, h2, b2⟩
  by_cases q17 : ck = 17
  · subst q17
    rw [show stepT 17 fs s = pushT s false 1 false from rfl, show lvSet 17 s (lv.set i (-1)) i = lv.set i (-1) from rfl, show clSet 17 s cls i = cls from rfl]
    go_enter Try.func37, Try.ntmps37
    go_wp2_with fail
    rw [HW1.out]
    refine (HP.out _ _ _ false _ _ _ _ rfl B1.out HBs H1.out).mono ?_
    rintro e w2 ⟨rfl, h2, b2⟩
    go_wp2_with fail
    refine bodyPost_ret (results_none rfl _ _ _) rfl ?_
    exact ⟨rfl, h2, b2⟩
  by_cases q18 : ck = 18
  · subst q18
    rw [show stepT 18 fs s = pushT s true 2 false from rfl, show lvSet 18 s (lv.set i (-1)) i = lv.set i (-1) from rfl, show clSet 18 s cls i = cls from rfl]
    go_enter Try.func37, Try.ntmps37
    go_wp2_with fail
    rw [HW1.out]
    refine (HP.out _ _ _ true _ _ _ _ rfl B1.out HBs H1.out).mono ?_
    rintro e w2 ⟨rfl, h2, b2⟩
    go_wp2_with fail
    refine bodyPost_ret (results_none rfl _ _ _) rfl ?_
    exact ⟨rfl, h2, b2⟩
  by_cases q16 : ck = 16
  · subst q16
    rw [show stepT 16 fs s = dropT s from rfl, show lvSet 16 s (lv.set i (-1)) i = lv.set i (-1) from rfl, show clSet 16 s cls i = cls from rfl]
    go_enter Try.func37, Try.ntmps37
    go_wp2_with fail
    rw [HW1.out]
    refine (implEmb _ H1.out.st HNE.out hl0 hs0 hs1).mono ?_
    rintro e w2 ⟨rfl, ⟨top2, h2⟩, g2⟩
    go_wp2_with fail
    refine bodyPost_ret (results_none rfl _ _ _) rfl ?_
    exact ⟨rfl, ⟨top2, H1.out.stack g2 h2⟩, H1.out.blwS B1.out HBs g2⟩
  -- what stands on top, in a world and a state
  have htop : ∀ (w2 : World) (lv2 cls2 : List Int) (top2 : Option Addr) (s2 : TS), GoodS base i s2 → Below B w w2 → B ≤ w2.heap.size → TIn w2 B T S gm gq gl gc n base cs M lv2 cls2 top2 s2 →
      ∃ b, top2 = some ⟨b, 0, none⟩ ∧ (¬ gl = b ∧ ¬ gc = b) ∧ w2.cell? ⟨b, 0, none⟩ = some (.int .i64 (topL s2.st)) ∧ w2.cell? ⟨b, 1, none⟩ = some (.int .i64 (topS s2.st)) := by
    intro w2 lv2 cls2 top2 s2 g2 b2 hb2 h2
    obtain ⟨x, r, hx⟩ := good_ne g2
    have hlk := h2.st.lk
    rw [hx] at hlk ⊢
    obtain ⟨b, nx, e, hb1, _, n0, n1, _⟩ := hlk
    simp only [Value.pointer.injEq] at e
    exact ⟨b, e, ⟨fun e2 => hb1 (.inr (.inr (.inl e2.symm))), fun e2 => hb1 (.inr (.inr (.inr e2.symm)))⟩, n0, n1⟩
  have HTOP : Hid _ := htop
  clear htop
  by_cases q22 : ck = 22
  · subst q22
    rw [show stepT 22 fs s = endT s from rfl, show lvSet 22 s (lv.set i (-1)) i = (lv.set i (-1)).set i (topL (endT s).st) from rfl, show clSet 22 s cls i = cls.set i (sdT (endT s).st 22) from rfl, List.set_set]
    have HOB : Hid (opensB 22 = false) := by show _ = _; decide
    obtain ⟨s2, hs2⟩ : ∃ s2, endT s = s2 := ⟨_, rfl⟩
    have HG2 : Hid (GoodS base i s2) := by rw [← hs2]; exact good_end HG.out
    rw [hs2]
    have HS2 : Hid _ := hs2
    clear hs2
    go_enter Try.func37, Try.ntmps37
    go_wp2_with fail
    rw [HW1.out]
    refine (implAlone _ H1.out.st HCUT.out hl0 hl1).mono ?_
    rintro e w2 ⟨rfl, ⟨top2, h2⟩, g2⟩
    have H2 := H1.out.stack g2 h2
    have B2 := H1.out.blwS B1.out HBs g2
    rw [HS2.out] at H2
    have HH2 : Hid (TIn w2 B T S gm gq gl gc n base cs M (lv.set i (-1)) cls top2 s2) := H2
    have HB2 : Hid (Below B w w2) := B2
    have HBs2 : B ≤ w2.heap.size := Nat.le_trans hB B2.size
    clear H2 B2 h2 g2
    obtain ⟨b, rfl, ⟨nb1, nb2⟩, t0, t1⟩ := HTOP.out _ _ _ _ _ HG2.out HB2.out HBs2 HH2.out
    obtain ⟨tl, htl⟩ : ∃ tl, topL s2.st = tl := ⟨_, rfl⟩
    obtain ⟨ts, hts⟩ : ∃ ts, topS s2.st = ts := ⟨_, rfl⟩
    obtain ⟨sd, hsdd⟩ : ∃ sd, sdT s2.st 22 = sd := ⟨_, rfl⟩
    have hsd : sd = if ts ≠ 0 then ts else 22 := by rw [← hsdd]; unfold sdT; rw [hts]
    have HTL : Hid _ := htl
    have HSDD : Hid _ := hsdd
    rw [htl] at t0
    rw [hts] at t1
    have c3 := HH2.out.c3
    have c4 := HH2.out.c4
    have s0 := HH2.out.st.c0
    have kl := HH2.out.ol.cellN i hi
    have fl := HH2.out.ol.frozenN i
    have kc := HH2.out.oc.cellN i hi
    have fc := HH2.out.oc.frozenN i
    have n1 : ¬ gl = gc := HH2.out.nlc
    have n2 : ¬ gl = T := HH2.out.nTl
    have n3 : ¬ gc = T := HH2.out.nTc
    have n4 : ¬ gl = S := HH2.out.nSl
    have n5 : ¬ gc = S := HH2.out.nSc
    have FA : Hid (∀ q, TIn (((w2.setCell ⟨gl, i, none⟩ (.int .i64 tl)).setCell ⟨gc, i, none⟩ (.int .i64 22)).drewN q) B T S gm gq gl gc n base cs M (lv.set i tl) (cls.set i 22) (some ⟨b, 0, none⟩) s2 ∧ Below B w (((w2.setCell ⟨gl, i, none⟩ (.int .i64 tl)).setCell ⟨gc, i, none⟩ (.int .i64 22)).drewN q)) := by
      have a := (HH2.out.setL i tl).setC i 22
      rw [List.set_set] at a
      exact fun q => ⟨a.below (below_draws _ q), (((HH2.out.setL i tl).blwC (HH2.out.blwL HB2.out i _) i _).trans ((below_draws _ q).mono (by simp only [World.size_setCell]; first | exact HBs2 | exact HBs)))⟩
    have FB : Hid (∀ q, TIn ((((w2.setCell ⟨gl, i, none⟩ (.int .i64 tl)).setCell ⟨gc, i, none⟩ (.int .i64 22)).setCell ⟨gc, i, none⟩ (.int .i64 ts)).drewN q) B T S gm gq gl gc n base cs M (lv.set i tl) (cls.set i ts) (some ⟨b, 0, none⟩) s2 ∧ Below B w ((((w2.setCell ⟨gl, i, none⟩ (.int .i64 tl)).setCell ⟨gc, i, none⟩ (.int .i64 22)).setCell ⟨gc, i, none⟩ (.int .i64 ts)).drewN q)) := by
      have a := ((HH2.out.setL i tl).setC i 22).setC i ts
      rw [List.set_set, List.set_set] at a
      exact fun q => ⟨a.below (below_draws _ q), ((((HH2.out.setL i tl).setC i 22).blwC ((HH2.out.setL i tl).blwC (HH2.out.blwL HB2.out i _) i _) i _).trans ((below_draws _ q).mono (by simp only [World.size_setCell]; first | exact HBs2 | exact HBs)))⟩
    have HSD : Hid _ := hsd
    clear hsd htl hts hsdd
    by_cases hz : ts = 0
    · have hz1 : (ts != 0) = false := by simpa using hz
      have HE : Hid (sd = 22) := by show _ = _; rw [HSD.out]; exact if_neg (by rw [hz]; simp)
      clear hz
      go_wp2_with fail
      go_region_held3 (fun w' => w'.cell? ⟨T, 3, none⟩ = some (.slice (some ⟨gl, 0, none⟩) n n) ∧ w'.cell? ⟨T, 4, none⟩ = some (.slice (some ⟨gc, 0, none⟩) n n) ∧ w'.cell? ⟨S, 0, none⟩ = some (.pointer (some ⟨b, 0, none⟩)) ∧ w'.cell? ⟨b, 0, none⟩ = some (.int .i64 tl)) (go_keep) (fail)
      go_wp2_with fail
      refine (implOpens _ _).mono ?_
      rintro e w5 ⟨rfl, rfl⟩
      rw [HOB.out]
      go_wp2_with fail
      go_end0
      rw [HTL.out, HSDD.out, HE.out]
      exact ⟨rfl, ⟨_, (FA.out 1).1⟩, (FA.out 1).2⟩
    · have hz1 : (ts != 0) = true := by simpa using hz
      have HE : Hid (sd = ts) := by show _ = _; rw [HSD.out]; exact if_pos (by exact hz)
      clear hz
      go_wp2_with fail
      go_region_held3 (fun w' => w'.cell? ⟨T, 3, none⟩ = some (.slice (some ⟨gl, 0, none⟩) n n) ∧ w'.cell? ⟨T, 4, none⟩ = some (.slice (some ⟨gc, 0, none⟩) n n) ∧ w'.cell? ⟨S, 0, none⟩ = some (.pointer (some ⟨b, 0, none⟩)) ∧ w'.cell? ⟨b, 0, none⟩ = some (.int .i64 tl)) (go_keep) (fail)
      go_wp2_with fail
      go_region_held3 (fun w' => w'.cell? ⟨T, 4, none⟩ = some (.slice (some ⟨gc, 0, none⟩) n n) ∧ w'.cell? ⟨S, 0, none⟩ = some (.pointer (some ⟨b, 0, none⟩)) ∧ w'.cell? ⟨b, 1, none⟩ = some (.int .i64 ts)) (go_keep) (fail)
      go_wp2_with fail
      refine (implOpens _ _).mono ?_
      rintro e w5 ⟨rfl, rfl⟩
      rw [HOB.out]
      go_wp2_with fail
      go_end0
      rw [HTL.out, HSDD.out, HE.out]
      exact ⟨rfl, ⟨_, (FB.out 2).1⟩, (FB.out 2).2⟩
  by_cases qop : ck = 19 ∨ ck = 20 ∨ ck = 21
  · have hel : lvSet ck s (lv.set i (-1)) i = lv.set i (topL s.st) := by unfold lvSet atT; rw [if_neg (by unfold tellsB; simp; omega), if_neg q22, List.set_set]
    have hec : clSet ck s cls i = cls.set i (sdT s.st ck) := by unfold clSet atT; rw [if_neg (by unfold tellsB; simp; omega), if_neg q22]
    have HOB : Hid (opensB ck = true) := by show _ = _; unfold opensB; simp; omega
    rw [stepI_op fs s qop, hel, hec]
    have p14 : (ck == 14) = false := by simpa using q14
    have p15 : (ck == 15) = false := by simpa using q15
    have p16 : (ck == 16) = false := by simpa using q16
    have p17 : (ck == 17) = false := by simpa using q17
    have p18 : (ck == 18) = false := by simpa using q18
    have p10 : (ck == 10) = false := by simpa using q10
    have p22 : (ck == 22) = false := by simpa using q22
    clear q10 q14 q15 q16 q17 q18 q22 qop hel hec
    obtain ⟨b, rfl, ⟨nb1, nb2⟩, t0, t1⟩ := HTOP.out _ _ _ _ _ HG.out B1.out HBs H1.out
    obtain ⟨tl, htl⟩ : ∃ tl, topL s.st = tl := ⟨_, rfl⟩
    obtain ⟨ts, hts⟩ : ∃ ts, topS s.st = ts := ⟨_, rfl⟩
    obtain ⟨sd, hsdd⟩ : ∃ sd, sdT s.st ck = sd := ⟨_, rfl⟩
    have hsd : sd = if ts ≠ 0 then ts else ck := by rw [← hsdd]; unfold sdT; rw [hts]
    have HTL : Hid _ := htl
    have HSDD : Hid _ := hsdd
    rw [htl] at t0
    rw [hts] at t1
    have c3 := H1.out.c3
    have c4 := H1.out.c4
    have s0 := H1.out.st.c0
    have kl := H1.out.ol.cellN i hi
    have fl := H1.out.ol.frozenN i
    have kc := H1.out.oc.cellN i hi
    have fc := H1.out.oc.frozenN i
    have n1 : ¬ gl = gc := H1.out.nlc
    have n2 : ¬ gl = T := H1.out.nTl
    have n3 : ¬ gc = T := H1.out.nTc
    have n4 : ¬ gl = S := H1.out.nSl
    have n5 : ¬ gc = S := H1.out.nSc
    have FA : Hid (∀ q, TIn (((w1.setCell ⟨gl, i, none⟩ (.int .i64 tl)).setCell ⟨gc, i, none⟩ (.int .i64 ck)).drewN q) B T S gm gq gl gc n base cs M (lv.set i tl) (cls.set i ck) (some ⟨b, 0, none⟩) s ∧ Below B w (((w1.setCell ⟨gl, i, none⟩ (.int .i64 tl)).setCell ⟨gc, i, none⟩ (.int .i64 ck)).drewN q)) := by
      have a := (H1.out.setL i tl).setC i ck
      rw [List.set_set] at a
      exact fun q => ⟨a.below (below_draws _ q), (((H1.out.setL i tl).blwC (H1.out.blwL B1.out i _) i _).trans ((below_draws _ q).mono (by simp only [World.size_setCell]; first | exact HBs2 | exact HBs)))⟩
    have FB : Hid (∀ q, TIn ((((w1.setCell ⟨gl, i, none⟩ (.int .i64 tl)).setCell ⟨gc, i, none⟩ (.int .i64 ck)).setCell ⟨gc, i, none⟩ (.int .i64 ts)).drewN q) B T S gm gq gl gc n base cs M (lv.set i tl) (cls.set i ts) (some ⟨b, 0, none⟩) s ∧ Below B w ((((w1.setCell ⟨gl, i, none⟩ (.int .i64 tl)).setCell ⟨gc, i, none⟩ (.int .i64 ck)).setCell ⟨gc, i, none⟩ (.int .i64 ts)).drewN q)) := by
      have a := ((H1.out.setL i tl).setC i ck).setC i ts
      rw [List.set_set, List.set_set] at a
      exact fun q => ⟨a.below (below_draws _ q), ((((H1.out.setL i tl).setC i ck).blwC ((H1.out.setL i tl).blwC (H1.out.blwL B1.out i _) i _) i _).trans ((below_draws _ q).mono (by simp only [World.size_setCell]; first | exact HBs2 | exact HBs)))⟩
    have HSD : Hid _ := hsd
    clear hsd htl hts hsdd ht0 ht1
    by_cases hz : ts = 0
    · have hz1 : (ts != 0) = false := by simpa using hz
      have HE : Hid (sd = ck) := by show _ = _; rw [HSD.out]; exact if_neg (by rw [hz]; simp)
      clear hz
      go_enter Try.func37, Try.ntmps37
      go_wp2_with fail
      rw [HW1.out]
      go_region_held3 (fun w' => w'.cell? ⟨T, 3, none⟩ = some (.slice (some ⟨gl, 0, none⟩) n n) ∧ w'.cell? ⟨T, 4, none⟩ = some (.slice (some ⟨gc, 0, none⟩) n n) ∧ w'.cell? ⟨S, 0, none⟩ = some (.pointer (some ⟨b, 0, none⟩)) ∧ w'.cell? ⟨b, 0, none⟩ = some (.int .i64 tl)) (go_keep) (fail)
      go_wp2_with fail
      refine (implOpens _ _).mono ?_
      rintro e w5 ⟨rfl, rfl⟩
      rw [HOB.out]
      go_wp2_with fail
      refine (implOpened c mt i _ hi hn80 HN.out HM.out (by rw [HCK.out]; exact HOB.out) hc hmt hsm (FA.out 1).1).mono ?_
      rintro e w6 ⟨rfl, m6, rfl⟩
      rw [HCK.out, HF.out]
      go_wp2_with fail
      refine (HP.out _ _ _ _ _ _ _ _ rfl (FA.out _).2 (Nat.le_trans hB (FA.out _).2.size) (FA.out _).1).mono ?_
      rintro e w7 ⟨rfl, h7, b7⟩
      go_wp2_with fail
      go_end0
      rw [HTL.out, HSDD.out, HE.out]
      exact ⟨rfl, h7, b7⟩
    · have hz1 : (ts != 0) = true := by simpa using hz
      have HE : Hid (sd = ts) := by show _ = _; rw [HSD.out]; exact if_pos (by exact hz)
      clear hz
      go_enter Try.func37, Try.ntmps37
      go_wp2_with fail
      rw [HW1.out]
      go_region_held3 (fun w' => w'.cell? ⟨T, 3, none⟩ = some (.slice (some ⟨gl, 0, none⟩) n n) ∧ w'.cell? ⟨T, 4, none⟩ = some (.slice (some ⟨gc, 0, none⟩) n n) ∧ w'.cell? ⟨S, 0, none⟩ = some (.pointer (some ⟨b, 0, none⟩)) ∧ w'.cell? ⟨b, 0, none⟩ = some (.int .i64 tl)) (go_keep) (fail)
      go_wp2_with fail
      go_region_held3 (fun w' => w'.cell? ⟨T, 4, none⟩ = some (.slice (some ⟨gc, 0, none⟩) n n) ∧ w'.cell? ⟨S, 0, none⟩ = some (.pointer (some ⟨b, 0, none⟩)) ∧ w'.cell? ⟨b, 1, none⟩ = some (.int .i64 ts)) (go_keep) (fail)
      go_wp2_with fail
      refine (implOpens _ _).mono ?_
      rintro e w5 ⟨rfl, rfl⟩
      rw [HOB.out]
      go_wp2_with fail
      refine (implOpened c mt i _ hi hn80 HN.out HM.out (by rw [HCK.out]; exact HOB.out) hc hmt hsm (FB.out 2).1).mono ?_
      rintro e w6 ⟨rfl, m6, rfl⟩
      rw [HCK.out, HF.out]
      go_wp2_with fail
      refine (HP.out _ _ _ _ _ _ _ _ rfl (FB.out _).2 (Nat.le_trans hB (FB.out _).2.size) (FB.out _).1).mono ?_
      rintro e w7 ⟨rfl, h7, b7⟩
      go_wp2_with fail
      go_end0
      rw [HTL.out, HSDD.out, HE.out]
      exact ⟨rfl, h7, b7⟩
  have hno : ¬ (14 ≤ ck ∧ ck ≤ 22) := by omega
  have hel : lvSet ck s (lv.set i (-1)) i = lv.set i (topL s.st) := by unfold lvSet atT; rw [if_neg (by unfold tellsB; simp; omega), if_neg q22, List.set_set]
  have hec : clSet ck s cls i = cls.set i (sdT s.st ck) := by unfold clSet atT; rw [if_neg (by unfold tellsB; simp; omega), if_neg q22]
  have HOB : Hid (opensB ck = false) := by show _ = _; unfold opensB; simp; omega
  rw [stepI_other fs s hno, hel, hec]
  have p14 : (ck == 14) = false := by simpa using q14
  have p15 : (ck == 15) = false := by simpa using q15
  have p16 : (ck == 16) = false := by simpa using q16
  have p17 : (ck == 17) = false := by simpa using q17
  have p18 : (ck == 18) = false := by simpa using q18
  have p10 : (ck == 10) = false := by simpa using q10
  have p22 : (ck == 22) = false := by simpa using q22
  clear q10 q14 q15 q16 q17 q18 q22 qop hno hel hec
  obtain ⟨b, rfl, ⟨nb1, nb2⟩, t0, t1⟩ := HTOP.out _ _ _ _ _ HG.out B1.out HBs H1.out
  obtain ⟨tl, htl⟩ : ∃ tl, topL s.st = tl := ⟨_, rfl⟩
  obtain ⟨ts, hts⟩ : ∃ ts, topS s.st = ts := ⟨_, rfl⟩
  obtain ⟨sd, hsdd⟩ : ∃ sd, sdT s.st ck = sd := ⟨_, rfl⟩
  have hsd : sd = if ts ≠ 0 then ts else ck := by rw [← hsdd]; unfold sdT; rw [hts]
  have HTL : Hid _ := htl
  have HSDD : Hid _ := hsdd
  rw [htl] at t0
  rw [hts] at t1
  have c3 := H1.out.c3
  have c4 := H1.out.c4
  have s0 := H1.out.st.c0
  have kl := H1.out.ol.cellN i hi
  have fl := H1.out.ol.frozenN i
  have kc := H1.out.oc.cellN i hi
  have fc := H1.out.oc.frozenN i
  have n1 : ¬ gl = gc := H1.out.nlc
  have n2 : ¬ gl = T := H1.out.nTl
  have n3 : ¬ gc = T := H1.out.nTc
  have n4 : ¬ gl = S := H1.out.nSl
  have n5 : ¬ gc = S := H1.out.nSc
  have FA : Hid (∀ q, TIn (((w1.setCell ⟨gl, i, none⟩ (.int .i64 tl)).setCell ⟨gc, i, none⟩ (.int .i64 ck)).drewN q) B T S gm gq gl gc n base cs M (lv.set i tl) (cls.set i ck) (some ⟨b, 0, none⟩) s ∧ Below B w (((w1.setCell ⟨gl, i, none⟩ (.int .i64 tl)).setCell ⟨gc, i, none⟩ (.int .i64 ck)).drewN q)) := by
    have a := (H1.out.setL i tl).setC i ck
    rw [List.set_set] at a
    exact fun q => ⟨a.below (below_draws _ q), (((H1.out.setL i tl).blwC (H1.out.blwL B1.out i _) i _).trans ((below_draws _ q).mono (by simp only [World.size_setCell]; first | exact HBs2 | exact HBs)))⟩
  have FB : Hid (∀ q, TIn ((((w1.setCell ⟨gl, i, none⟩ (.int .i64 tl)).setCell ⟨gc, i, none⟩ (.int .i64 ck)).setCell ⟨gc, i, none⟩ (.int .i64 ts)).drewN q) B T S gm gq gl gc n base cs M (lv.set i tl) (cls.set i ts) (some ⟨b, 0, none⟩) s ∧ Below B w ((((w1.setCell ⟨gl, i, none⟩ (.int .i64 tl)).setCell ⟨gc, i, none⟩ (.int .i64 ck)).setCell ⟨gc, i, none⟩ (.int .i64 ts)).drewN q)) := by
    have a := ((H1.out.setL i tl).setC i ck).setC i ts
    rw [List.set_set, List.set_set] at a
    exact fun q => ⟨a.below (below_draws _ q), ((((H1.out.setL i tl).setC i ck).blwC ((H1.out.setL i tl).blwC (H1.out.blwL B1.out i _) i _) i _).trans ((below_draws _ q).mono (by simp only [World.size_setCell]; first | exact HBs2 | exact HBs)))⟩
  have HSD : Hid _ := hsd
  clear hsd htl hts hsdd ht0 ht1
  by_cases hz : ts = 0
  · have hz1 : (ts != 0) = false := by simpa using hz
    have HE : Hid (sd = ck) := by show _ = _; rw [HSD.out]; exact if_neg (by rw [hz]; simp)
    clear hz
    go_enter Try.func37, Try.ntmps37
    go_wp2_with fail
    rw [HW1.out]
    go_region_held3 (fun w' => w'.cell? ⟨T, 3, none⟩ = some (.slice (some ⟨gl, 0, none⟩) n n) ∧ w'.cell? ⟨T, 4, none⟩ = some (.slice (some ⟨gc, 0, none⟩) n n) ∧ w'.cell? ⟨S, 0, none⟩ = some (.pointer (some ⟨b, 0, none⟩)) ∧ w'.cell? ⟨b, 0, none⟩ = some (.int .i64 tl)) (go_keep) (fail)
    go_wp2_with fail
    refine (implOpens _ _).mono ?_
    rintro e w5 ⟨rfl, rfl⟩
    rw [HOB.out]
    go_wp2_with fail
    go_end0
    rw [HTL.out, HSDD.out, HE.out]
    exact ⟨rfl, ⟨_, (FA.out 1).1⟩, (FA.out 1).2⟩
  · have hz1 : (ts != 0) = true := by simpa using hz
    have HE : Hid (sd = ts) := by show _ = _; rw [HSD.out]; exact if_pos (by exact hz)
    clear hz
    go_enter Try.func37, Try.ntmps37
    go_wp2_with fail
    rw [HW1.out]
    go_region_held3 (fun w' => w'.cell? ⟨T, 3, none⟩ = some (.slice (some ⟨gl, 0, none⟩) n n) ∧ w'.cell? ⟨T, 4, none⟩ = some (.slice (some ⟨gc, 0, none⟩) n n) ∧ w'.cell? ⟨S, 0, none⟩ = some (.pointer (some ⟨b, 0, none⟩)) ∧ w'.cell? ⟨b, 0, none⟩ = some (.int .i64 tl)) (go_keep) (fail)
    go_wp2_with fail
    go_region_held3 (fun w' => w'.cell? ⟨T, 4, none⟩ = some (.slice (some ⟨gc, 0, none⟩) n n) ∧ w'.cell? ⟨S, 0, none⟩ = some (.pointer (some ⟨b, 0, none⟩)) ∧ w'.cell? ⟨b, 1, none⟩ = some (.int .i64 ts)) (go_keep) (fail)
    go_wp2_with fail
    refine (implOpens _ _).mono ?_
    rintro e w5 ⟨rfl, rfl⟩
    rw [HOB.out]
    go_wp2_with fail
    go_end0
    rw [HTL.out, HSDD.out, HE.out]
    exact ⟨rfl, ⟨_, (FB.out 2).1⟩, (FB.out 2).2⟩
end Go.Proofs.Ytkdmfjnaajedhaa
namespace Go.Proofs.Ytkdmfjnaajedhaa
open Go.ChangeShapes Go.WideShapes Go.ChangeAt Go.RowKit Go.Deep
set_option linter.unusedSimpArgs false
set_option linter.unusedVariables false

set_option maxHeartbeats 4000000 in
theorem tellLevels_no (v : Value) (l : List Int) (base : Int) (w : World) (hv : Arg w v l) (hl : l.length ≤ 4194304) (hno : (okF (fn l) l.length && baseB base) = false) :
    Calls Try.prog 21 #[v, .int .i64 base] w fun e w' => e = .returned (.pointer none) ∧ w' = w := by
  obtain ⟨q, hq⟩ : ∃ q, okF (fn l) l.length = q := ⟨_, rfl⟩
  rw [hq] at hno
  have HQ : Hid _ := hq
  clear hq
  cases q
  · clear hno
    go_enter Try.func21, Try.ntmps21
    go_wp2_with (go_at_call 28; refine (implOk v l _ hv hl).mono ?_; rintro e w1 ⟨rfl, rfl⟩; rw [HQ.out])
    go_ret
    exact ⟨rfl, rfl⟩
  · have h2 : ¬ (0 ≤ base ∧ base ≤ 1) := by simpa [baseB] using hno
    have h3 : (base != 0) = true := by simp; omega
    have h4 : (base != 1) = true := by simp; omega
    clear hno h2
    go_enter Try.func21, Try.ntmps21
    go_wp2_with (go_at_call 28; refine (implOk v l _ hv hl).mono ?_; rintro e w1 ⟨rfl, rfl⟩; rw [HQ.out])
    go_ret
    exact ⟨rfl, rfl⟩

/-- What is told of letters, with their levels. -/
structure TT (w : World) (B T gm gq gl gc n : Nat) (base : Int) (cs M lv cls : List Int) : Prop where
  ge : B ≤ T
  lt : T < w.heap.size
  c0 : w.cell? ⟨T, 0, none⟩ = some (.int .i64 base)
  c1 : w.cell? ⟨T, 1, none⟩ = some (.slice (some ⟨gm, 0, none⟩) n n)
  c2 : w.cell? ⟨T, 2, none⟩ = some (.slice (some ⟨gq, 0, none⟩) n n)
  c3 : w.cell? ⟨T, 3, none⟩ = some (.slice (some ⟨gl, 0, none⟩) n n)
  c4 : w.cell? ⟨T, 4, none⟩ = some (.slice (some ⟨gc, 0, none⟩) n n)
  om : OwnI w B (.slice (some ⟨gm, 0, none⟩) n n) cs
  oq : OwnI w B (.slice (some ⟨gq, 0, none⟩) n n) M
  ol : OwnI w B (.slice (some ⟨gl, 0, none⟩) n n) lv
  oc : OwnI w B (.slice (some ⟨gc, 0, none⟩) n n) cls
  nlc : gl ≠ gc
theorem TT.below {w w' : World} {B T gm gq gl gc n : Nat} {base : Int} {cs M lv cls : List Int} (h : TT w B T gm gq gl gc n base cs M lv cls) (hb : Below w.heap.size w w') : TT w' B T gm gq gl gc n base cs M lv cls := by
  have e : ∀ j, w'.cell? ⟨T, j, none⟩ = w.cell? ⟨T, j, none⟩ := fun j => World.cell?_of_block (hb.block T h.lt)
  exact ⟨h.ge, Nat.lt_of_lt_of_le h.lt hb.size, (e 0).trans h.c0, (e 1).trans h.c1, (e 2).trans h.c2, (e 3).trans h.c3, (e 4).trans h.c4, h.om.below hb, h.oq.below hb, h.ol.below hb, h.oc.below hb, h.nlc⟩
theorem TIn.tt {w : World} {B T S gl gc n gm gq : Nat} {base : Int} {cs M lv cls : List Int} {top : Option Addr} {s : TS} (h : TIn w B T S gm gq gl gc n base cs M lv cls top s) : TT w B T gm gq gl gc n base cs M lv cls :=
  ⟨h.ge, h.lt, h.c0, h.c1, h.c2, h.c3, h.c4, h.om, h.oq, h.ol, h.oc, h.nlc⟩
/-- What the list of mates says. -/
structure MatesIs (c : Nat → Int) (n : Nat) (mt : Nat → Nat) (M : List Int) : Prop where
  same : SameMates c n mt M
  clos : ClosTo c n M

theorem tin_made {w : World} {B T gm gq n : Nat} {base : Int} {cs M : List Int} (h80 : n ≤ 80) (hB : B ≤ T) (hT : T < w.heap.size) (c0 : w.cell? ⟨T, 0, none⟩ = some (.int .i64 base)) (c1 : w.cell? ⟨T, 1, none⟩ = some (.slice (some ⟨gm, 0, none⟩) n n)) (c2 : ∃ u, w.cell? ⟨T, 2, none⟩ = some u) (c3 : ∃ u, w.cell? ⟨T, 3, none⟩ = some u) (c4 : ∃ u, w.cell? ⟨T, 4, none⟩ = some u)
    (om : OwnI w B (.slice (some ⟨gm, 0, none⟩) n n) cs) (oq : OwnI w B (.slice (some ⟨gq, 0, none⟩) n n) M) (n1 : gm ≠ T) (n2 : gq ≠ T) :
    TIn ((((((((w.setCell ⟨T, 2, none⟩ (.slice (some ⟨gq, 0, none⟩) n n)).setCell ⟨T, 3, none⟩ (.slice (some ⟨w.heap.size, 0, none⟩) n n)).setCell ⟨T, 4, none⟩ (.slice (some ⟨w.heap.size + 1, 0, none⟩) n n)).alloc (.cells (madeCells #[.int .i64 0] n) 3)).alloc (.cells (madeCells #[.int .i64 0] n) 3)).alloc (.cells #[.int .i64 base, .int .i64 0, .bool false, .pointer none] 59)).alloc (.cells #[.pointer (some ⟨w.heap.size + 1 + 1, 0, none⟩), .int .i64 0, .int .i64 0] 61)))
      B T (w.heap.size + 3) gm gq w.heap.size (w.heap.size + 1) n base cs M (List.replicate n 0) (List.replicate n 0) (some ⟨w.heap.size + 1 + 1, 0, none⟩) ⟨[⟨base, 0, false⟩], 0, 0⟩ := by
  obtain ⟨u2, c2⟩ := c2
  obtain ⟨u3, c3⟩ := c3
  obtain ⟨u4, c4⟩ := c4
  obtain ⟨W, hW⟩ : ∃ W, ((w.setCell ⟨T, 2, none⟩ (.slice (some ⟨gq, 0, none⟩) n n)).setCell ⟨T, 3, none⟩ (.slice (some ⟨w.heap.size, 0, none⟩) n n)).setCell ⟨T, 4, none⟩ (.slice (some ⟨w.heap.size + 1, 0, none⟩) n n) = W := ⟨_, rfl⟩
  have hs : W.heap.size = w.heap.size := by rw [← hW]; simp only [World.size_setCell]
  have d0 : W.cell? ⟨T, 0, none⟩ = some (.int .i64 base) := by rw [← hW]; exact setI_diff (by omega) (setI_diff (by omega) (setI_diff (by omega) c0))
  have d1 : W.cell? ⟨T, 1, none⟩ = some (.slice (some ⟨gm, 0, none⟩) n n) := by rw [← hW]; exact setI_diff (by omega) (setI_diff (by omega) (setI_diff (by omega) c1))
  have d2 : W.cell? ⟨T, 2, none⟩ = some (.slice (some ⟨gq, 0, none⟩) n n) := by rw [← hW]; exact setI_diff (by omega) (setI_diff (by omega) (setI_same c2))
  have d3 : W.cell? ⟨T, 3, none⟩ = some (.slice (some ⟨w.heap.size, 0, none⟩) n n) := by rw [← hW]; exact setI_diff (by omega) (setI_same (setI_diff (by omega) c3))
  have d4 : W.cell? ⟨T, 4, none⟩ = some (.slice (some ⟨w.heap.size + 1, 0, none⟩) n n) := by rw [← hW]; exact setI_same (setI_diff (by omega) (setI_diff (by omega) c4))
  have hkeep : ∀ g, g ≠ T → W.heap[g]? = w.heap[g]? := fun g hg => by
    rw [← hW]
    exact (heap_setCell_other _ ⟨T, 4, none⟩ g _ hg).trans ((heap_setCell_other _ ⟨T, 3, none⟩ g _ hg).trans (heap_setCell_other _ ⟨T, 2, none⟩ g _ hg))
  have om2 : OwnI W B (.slice (some ⟨gm, 0, none⟩) n n) cs := om.kept (fun k hk => by simp [Value.ownBlock] at hk; subst hk; exact hkeep _ n1)
  have oq2 : OwnI W B (.slice (some ⟨gq, 0, none⟩) n n) M := oq.kept (fun k hk => by simp [Value.ownBlock] at hk; subst hk; exact hkeep _ n2)
  rw [hW, ← hs]
  rw [← hs] at d3 d4 hT
  have hgm := (om2.lt gm rfl).2
  have hgq := (oq2.lt gq rfl).2
  obtain ⟨b0, b1, b2, b3⟩ := alloc4 W (.cells (madeCells #[.int .i64 0] n) 3) (.cells (madeCells #[.int .i64 0] n) 3) (.cells #[.int .i64 base, .int .i64 0, .bool false, .pointer none] 59) (.cells #[.pointer (some ⟨W.heap.size + 1 + 1, 0, none⟩), .int .i64 0, .int .i64 0] 61)
  have hbl : Below W.heap.size W ((((W.alloc (.cells (madeCells #[.int .i64 0] n) 3)).alloc (.cells (madeCells #[.int .i64 0] n) 3)).alloc (.cells #[.int .i64 base, .int .i64 0, .bool false, .pointer none] 59)).alloc (.cells #[.pointer (some ⟨W.heap.size + 1 + 1, 0, none⟩), .int .i64 0, .int .i64 0] 61)) :=
    ((((Below.refl _ W).alloc (Nat.le_refl _) _).alloc (by simp) _).alloc (by simp; omega) _).alloc (by simp; omega) _
  obtain ⟨V, hV⟩ : ∃ V, ((((W.alloc (.cells (madeCells #[.int .i64 0] n) 3)).alloc (.cells (madeCells #[.int .i64 0] n) 3)).alloc (.cells #[.int .i64 base, .int .i64 0, .bool false, .pointer none] 59)).alloc (.cells #[.pointer (some ⟨W.heap.size + 1 + 1, 0, none⟩), .int .i64 0, .int .i64 0] 61)) = V := ⟨_, rfl⟩
  have hVs : V.heap.size = W.heap.size + 4 := by rw [← hV]; simp
  rw [hV] at b0 b1 b2 b3 hbl ⊢
  have hcT : ∀ j, V.cell? ⟨T, j, none⟩ = W.cell? ⟨T, j, none⟩ := fun j => World.cell?_of_block (hbl.block T hT)
  have cS : ∀ j, V.cell? ⟨W.heap.size + 3, j, none⟩ = _ := fun j => cell_of_row V _ j _ _ (0, 0) b3
  have cN : ∀ j, V.cell? ⟨W.heap.size + 2, j, none⟩ = _ := fun j => cell_of_row V _ j _ _ (0, 0) b2
  have hBW : B ≤ W.heap.size := by omega
  have hm : n ≤ maxLen := by unfold maxLen; omega
  refine ⟨hB, by omega, (hcT 0).trans d0, (hcT 1).trans d1, (hcT 2).trans d2, (hcT 3).trans d3, (hcT 4).trans d4, om2.below hbl, oq2.below hbl, ⟨n1, by omega, by omega, by omega⟩, ⟨n2, by omega, by omega, by omega⟩, made_blk hBW b0 hm, made_blk (by omega) b1 hm, by omega, by omega, by omega, by omega, by omega, by omega, by omega,
    ⟨by omega, .inl rfl, fun b hb => ?_, by rw [cS]; rfl, by rw [cS]; rfl, by rw [cS]; rfl, fun j => frozen_of_row V _ j _ _ b3, ?_⟩⟩
  · rcases hb with rfl | rfl | rfl | rfl <;> omega
  · exact ⟨W.heap.size + 2, none, rfl, by omega, by omega, by rw [cN]; rfl, by rw [cN]; rfl, by rw [cN]; rfl, by rw [cN]; rfl, rfl⟩

set_option maxHeartbeats 8000000 in
theorem tellLevels_yes (v : Value) (l : List Int) (mt : Nat → Nat) (base : Int) (n : Nat) (w : World) (a : Option Addr) (cap : Nat) (hn : l.length = n) (hva : v = .slice a n cap) (hv : Arg w v l) (hok : Hid (okF (fn l) l.length = true)) (h80 : n ≤ 80) (hmt : Hid (MateFn (cl l) n mt)) (hb01 : 0 ≤ base ∧ base ≤ 1) :
    Calls Try.prog 21 #[v, .int .i64 base] w fun e w' => (∃ T gm gq gl gc M, e = .returned (.pointer (some ⟨T, 0, none⟩)) ∧ TT w' w.heap.size T gm gq gl gc n base (clsL l) M (lvL (cl l) (fsF (cl l) mt) base n) (clL (cl l) (fsF (cl l) mt) base n) ∧ MatesIs (cl l) n mt M) ∧ Below w.heap.size w w' := by
  subst hva
  have hmk := fun w => run_make_row' (P := Try.prog) 22 3 (.int .i64 0) 8 Try.underlying22 infoI rfl .i64 .i64 n (by omega) (by omega) w
  have HN : Hid _ := hn
  have hb3 : ((base != 0) = false) ∨ ((base != 0) = true ∧ (base != 1) = false) := by
    by_cases q : base = 0
    · exact .inl (by simpa using q)
    · exact .inr ⟨by simpa using q, by simp; omega⟩
  have hcl : (clsL l).length = n := by rw [clsL_len, hn]
  have HCL : Hid _ := hcl
  have hcc : Hid (∀ j, j < n → fn (clsL l) j = cl l j) := fun j hj => fn_clsL (by omega)
  have hlen : l.length ≤ 1048576 := by omega
  have hlen4 : l.length ≤ 4194304 := by omega
  have HV : Hid _ := hv
  clear hn hcl hv
  rcases hb3 with hb3 | ⟨hb3, hb4⟩
  all_goals
    go_enter Try.func21, Try.ntmps21
    go_wp2_with (first | (go_at_call 28; refine (implOk _ l _ HV.out hlen4).mono ?_; rintro e w1 ⟨rfl, rfl⟩; rw [hok.out]) | (go_at_call 35; refine (classes_any _ l _ HV.out hlen).mono ?_; rintro e w2 ⟨⟨gm, rfl, om⟩, b2⟩; rw [HN.out]; rw [HN.out] at om; have OM : Hid (OwnI w2 w1.heap.size (.slice (some ⟨gm, 0, none⟩) n n) (clsL l)) := om; clear om))
    have hgm := OM.out.lt gm rfl
    have t0 : (w2.alloc (.cells #[.int .i64 base, .slice (some ⟨gm, 0, none⟩) n n, .slice none 0 0, .slice none 0 0, .slice none 0 0] 42)).heap[w2.heap.size]? = some (.cells #[.int .i64 base, .slice (some ⟨gm, 0, none⟩) n n, .slice none 0 0, .slice none 0 0, .slice none 0 0] 42) := heap_alloc_new _ _
    have b3 : Below w1.heap.size w1 (w2.alloc (.cells #[.int .i64 base, .slice (some ⟨gm, 0, none⟩) n n, .slice none 0 0, .slice none 0 0, .slice none 0 0] 42)) := b2.alloc b2.size _
    have o3 : OwnI (w2.alloc (.cells #[.int .i64 base, .slice (some ⟨gm, 0, none⟩) n n, .slice none 0 0, .slice none 0 0, .slice none 0 0] 42)) w1.heap.size (.slice (some ⟨gm, 0, none⟩) n n) (clsL l) := OM.out.below ((Below.refl _ _).alloc (Nat.le_refl _) _)
    have hs3 : (w2.alloc (.cells #[.int .i64 base, .slice (some ⟨gm, 0, none⟩) n n, .slice none 0 0, .slice none 0 0, .slice none 0 0] 42)).heap.size = w2.heap.size + 1 := by simp
    obtain ⟨T, hT⟩ : ∃ T, w2.heap.size = T := ⟨_, rfl⟩
    rw [hT] at t0 hs3 hgm
    rw [hT]
    obtain ⟨w3, hw3⟩ : ∃ w3, (w2.alloc (.cells #[.int .i64 base, .slice (some ⟨gm, 0, none⟩) n n, .slice none 0 0, .slice none 0 0, .slice none 0 0] 42)) = w3 := ⟨_, rfl⟩
    rw [hw3] at t0 b3 o3 hs3
    rw [hw3]
    have hTw : w1.heap.size ≤ T := by rw [← hT]; exact b2.size
    have B3 : Hid _ := b3
    have O3 : Hid (OwnI w3 w1.heap.size (.slice (some ⟨gm, 0, none⟩) n n) (clsL l)) := o3
    have T0 : Hid (w3.heap[T]? = some (.cells #[.int .i64 base, .slice (some ⟨gm, 0, none⟩) n n, .slice none 0 0, .slice none 0 0, .slice none 0 0] 42)) := t0
    clear hw3 hT t0 b3 o3 b2 OM
    refine (mates_rowC gm 0 n n (clsL l) (cl l) _ HCL.out (by omega) (by omega) (fun j hj => by have := HCL.out; rw [Nat.zero_add]; exact O3.out.cellN j (by omega)) hcc).mono ?_
    rintro e w4 ⟨⟨gq, M, rfl, oq, hM, hCl⟩, b4⟩
    have hgq := oq.lt gq rfl
    have hsz4 := b4.size
    have OQ : Hid (OwnI w4 w1.heap.size (.slice (some ⟨gq, 0, none⟩) n n) M) := oq.mono (by omega)
    have O4 : Hid (OwnI w4 w1.heap.size (.slice (some ⟨gm, 0, none⟩) n n) (clsL l)) := O3.out.below b4
    have T4 : Hid (w4.heap[T]? = some (.cells #[.int .i64 base, .slice (some ⟨gm, 0, none⟩) n n, .slice none 0 0, .slice none 0 0, .slice none 0 0] 42)) := (b4.block T (by omega)).trans T0.out
    have B4 : Hid (Below w1.heap.size w1 w4) := bstep B3.out b4
    have q0 : w4.cell? ⟨T, 0, none⟩ = _ := cell_of_row w4 T 0 _ _ (0, 0) T4.out
    have q1 : w4.cell? ⟨T, 1, none⟩ = _ := cell_of_row w4 T 1 _ _ (0, 0) T4.out
    have q2 : w4.cell? ⟨T, 2, none⟩ = _ := cell_of_row w4 T 2 _ _ (0, 0) T4.out
    have q3 : w4.cell? ⟨T, 3, none⟩ = _ := cell_of_row w4 T 3 _ _ (0, 0) T4.out
    have q4 : w4.cell? ⟨T, 4, none⟩ = _ := cell_of_row w4 T 4 _ _ (0, 0) T4.out
    simp only [Array.getElem?_toList, List.getElem?_toArray, List.getElem?_cons_zero, List.getElem?_cons_succ] at q0 q1 q2 q3 q4
    have f2 := frozen_of_row w4 T 2 _ _ T4.out
    have f3 := frozen_of_row w4 T 3 _ _ T4.out
    have f4 := frozen_of_row w4 T 4 _ _ T4.out
    have hTl : T < w4.heap.size := by omega
    have fin := tin_made (base := base) h80 hTw hTl q0 q1 ⟨_, q2⟩ ⟨_, q3⟩ ⟨_, q4⟩ O4.out OQ.out (by omega) (by omega)
    obtain ⟨w5, hw5⟩ : ∃ w5, (((((((w4.setCell ⟨T, 2, none⟩ (.slice (some ⟨gq, 0, none⟩) n n)).setCell ⟨T, 3, none⟩ (.slice (some ⟨w4.heap.size, 0, none⟩) n n)).setCell ⟨T, 4, none⟩ (.slice (some ⟨w4.heap.size + 1, 0, none⟩) n n)).alloc (.cells (madeCells #[.int .i64 0] n) 3)).alloc (.cells (madeCells #[.int .i64 0] n) 3)).alloc (.cells #[.int .i64 base, .int .i64 0, .bool false, .pointer none] 59)).alloc (.cells #[.pointer (some ⟨w4.heap.size + 1 + 1, 0, none⟩), .int .i64 0, .int .i64 0] 61)) = w5 := ⟨_, rfl⟩
    have b5 : Below w1.heap.size w1 w5 := by
      rw [← hw5]
      exact ((((((B4.out.setCell (p := ⟨T, 2, none⟩) hTw _).setCell (p := ⟨T, 3, none⟩) hTw _).setCell (p := ⟨T, 4, none⟩) hTw _).alloc (by simp only [World.size_setCell]; omega) _).alloc (by simp; omega) _).alloc (by simp; omega) _).alloc (by simp; omega) _
    have B5 : Hid (Below w1.heap.size w1 w5) := b5
    obtain ⟨gl, hgl⟩ : ∃ gl, w4.heap.size = gl := ⟨_, rfl⟩
    rw [hw5] at fin
    have FIN : Hid (TIn w5 w1.heap.size T (gl + 3) gm gq gl (gl + 1) n base (clsL l) M (List.replicate n 0) (List.replicate n 0) (some ⟨gl + 1 + 1, 0, none⟩) ⟨[⟨base, 0, false⟩], 0, 0⟩) := by rw [← hgl]; exact fin
    have HW5 : Hid _ := hw5
    have HGL : Hid _ := hgl
    clear hw5 fin b5 hgl
    have hMI : Hid (MatesIs (cl l) n mt M) := ⟨same_mates hmt.out hM.out, hCl.out⟩
    clear hgm hgq oq b4
    go_wp2_with fail
    rw [HW5.out, HGL.out, show gl + 1 + 1 + 1 = gl + 3 from rfl]
    clear hmk f2 f3 f4 q0 q1 q2 q3 q4
    go_loopw [51] (fun q wr => ∃ (i : Nat) (top : Option Addr) (lv cls : List Int), i ≤ n ∧ q = .int .i64 i ∧ Hid (TIn wr w1.heap.size T (gl + 3) gm gq gl (gl + 1) n base (clsL l) M lv cls top (told (cl l) (fsF (cl l) mt) base i)) ∧ Hid (toldTo (cl l) (fsF (cl l) mt) base n i lv cls) ∧ Hid (Below w1.heap.size w1 wr)) (fun q _ => n - (intOf q).toNat)
    case atStart => exact ⟨0, _, _, _, Nat.zero_le _, rfl, FIN.out, told_zero _ _ _ _, B5.out⟩
    case round =>
      obtain ⟨i, top, lv, cls, hi, rfl, hT, hTo, hB⟩ := hrel
      by_cases hlt : i < n
      · have hi1 : (i : Int) < (n : Int) := by omega
        go_wp2_with fail
        refine (implLetter (cl l) mt i _ hlt (by omega) HCL.out hT.out.oq.len hb01.1 (Nat.le_trans hB.out.size (Nat.le_refl _)) hcc hmt hMI.out.same (good_told _ _ hb01 i) hT.out).mono ?_
        rintro e w6 ⟨rfl, ⟨top6, h6⟩, b6⟩
        have H6 : Hid (TIn w6 w1.heap.size T (gl + 3) gm gq gl (gl + 1) n base (clsL l) M (lvSet (cl l i) (told (cl l) (fsF (cl l) mt) base i) (lv.set i (-1)) i) (clSet (cl l i) (told (cl l) (fsF (cl l) mt) base i) cls i) top6 (told (cl l) (fsF (cl l) mt) base (i + 1))) := h6
        have B6 : Hid (Below w1.heap.size w1 w6) := hB.out.trans b6
        clear h6 b6
        go_wp2_with fail
        go_roundw
        case rel => exact ⟨i + 1, top6, _, _, by omega, by go_num, H6, told_step hTo.out hlt, B6⟩
        case measure => simp only [intOf]; omega
      · have e : i = n := by omega
        subst e
        go_wp2_with fail
        go_ret
        obtain ⟨e1, e2⟩ := told_end hTo.out
        have h7 := hT.out.tt
        rw [e1, e2] at h7
        exact ⟨⟨T, gm, gq, gl, gl + 1, M, rfl, h7, hMI.out⟩, hB.out⟩

set_option maxHeartbeats 2000000 in
theorem implTold (v : Value) (l : List Int) (mt : Nat → Nat) (base : Int) (w : World) (a : Option Addr) (cap : Nat) (hva : v = .slice a l.length cap) (hv : Arg w v l) (hl : l.length ≤ 1048576) (hmt : Hid (MateFn (cl l) l.length mt)) :
    Calls Try.prog 8 #[v, .int .i64 base] w fun e w' => (∃ v1 v2, e = .returned (.tuple #[v1, v2]) ∧ OwnI w' w.heap.size v1 (toldL l mt base) ∧ OwnI w' w.heap.size v2 (toldC l mt base) ∧ Apart v1 v2) ∧ Below w.heap.size w w' := by
  obtain ⟨q, hq⟩ : ∃ q, okT l base = q := ⟨_, rfl⟩
  unfold toldL toldC
  rw [hq]
  cases q
  · rw [if_neg (by simp), if_neg (by simp)]
    have HQ : Hid ((okF (fn l) l.length && baseB base) = false) := hq
    clear hq hva
    go_enter Try.func8, Try.ntmps8
    go_wp2_with (go_at_call 21; refine (tellLevels_no v l base _ hv (by omega) HQ.out).mono ?_; rintro e w1 ⟨rfl, rfl⟩)
    go_ret2
    exact ⟨⟨_, _, rfl, OwnI.nil _ _, OwnI.nil _ _, fun k h1 h2 => by simp [Value.ownBlock] at h1⟩, Below.refl _ _⟩
  · obtain ⟨hok, hb01, h80⟩ := okT_out hq
    rw [if_pos rfl, if_pos rfl]
    have HOK : Hid _ := hok
    clear hq hok
    subst hva
    go_enter Try.func8, Try.ntmps8
    go_wp2_with fail
    refine (tellLevels_yes _ l mt base l.length _ a cap rfl rfl hv HOK h80 hmt hb01).mono ?_
    rintro e w1 ⟨⟨T, gm, gq, gl, gc, M, rfl, h, _⟩, b1⟩
    have c3 := h.c3
    have c4 := h.c4
    go_wp2_with fail
    go_quiet (fail)
    go_wp2_with fail
    go_ret2
    refine ⟨⟨_, _, rfl, h.ol.drewN _, h.oc.drewN _, fun k h1 h2 => ?_⟩, bstep b1 (below_draws _ _)⟩
    simp [Value.ownBlock] at h1 h2
    exact h.nlc (by omega)
end Go.Proofs.Ytkdmfjnaajedhaa
namespace Go.Proofs.Ytkdmfjnaajedhaa
open Go.ChangeShapes Go.WideShapes Go.ChangeAt Go.RowKit Go.Deep
set_option linter.unusedSimpArgs false
set_option linter.unusedVariables false

/-- Where something begins, up to a place. -/
def begN (lv : Nat → Int) (k : Nat) : List Nat := (List.range k).filter (begB lv)
def pcsN (lv : Nat → Int) (k : Nat) : List (List Nat) := (begN lv k).map (fun b => pieceN lv b k)
theorem begN_succ (lv : Nat → Int) (k : Nat) : begN lv (k + 1) = begN lv k ++ (if begB lv k = true then [k] else []) := by
  unfold begN
  rw [List.range_succ, List.filter_append]
  congr 1
  simp only [List.filter_cons, List.filter_nil]
theorem begN_mem {lv : Nat → Int} {k b : Nat} : b ∈ begN lv k ↔ b < k ∧ begB lv b = true := by unfold begN; rw [List.mem_filter, List.mem_range]
theorem begN_len (lv : Nat → Int) (k : Nat) : (begN lv k).length ≤ k := by unfold begN; have := List.length_filter_le (begB lv) (List.range k); rwa [List.length_range] at this
/-- The last one that has begun. -/
theorem begN_last (lv : Nat → Int) (k : Nat) : (begN lv k = [] ∧ pvL lv k = -1) ∨ ∃ pre, begN lv k = pre ++ [bgL lv k] ∧ pvL lv k = lv (bgL lv k) := by
  induction k with
  | zero => exact .inl ⟨rfl, rfl⟩
  | succ k ih =>
    rw [begN_succ]
    by_cases hb : begB lv k = true
    · rw [if_pos hb]
      exact .inr ⟨begN lv k, by rw [bg_beg hb], by simp only [pvL]; rw [if_pos (beg_seen hb), bg_beg hb]⟩
    · have hb' : begB lv k = false := by simpa using hb
      rw [if_neg hb, List.append_nil, bg_stay hb']
      by_cases hs : 0 ≤ lv k
      · have e := beg_no hb' hs
        have hp : pvL lv (k + 1) = pvL lv k := by simp only [pvL]; rw [if_pos hs, e]
        rw [hp]; exact ih
      · have hp : pvL lv (k + 1) = pvL lv k := by simp only [pvL]; rw [if_neg hs]
        rw [hp]; exact ih
theorem pcs_unseen {lv : Nat → Int} {k : Nat} (h : lv k < 0) : pcsN lv (k + 1) = pcsN lv k := by
  unfold pcsN
  rw [begN_succ, if_neg (by rw [bg_unseen h]; simp), List.append_nil]
  apply List.map_congr_left
  intro b hb
  rw [piece_succ, if_neg, List.append_nil]
  simp [ofB]; intro h2; omega
theorem pcs_beg {lv : Nat → Int} {k : Nat} (h : begB lv k = true) : pcsN lv (k + 1) = pcsN lv k ++ [[k]] := by
  unfold pcsN
  rw [begN_succ, if_pos h, List.map_append]
  congr 1
  · apply List.map_congr_left
    intro b hb
    rw [piece_succ, if_neg, List.append_nil]
    rw [begN_mem] at hb
    simp [ofB, bg_beg h]; intro _; omega
  · simp only [List.map_cons, List.map_nil]
    rw [piece_succ, piece_at lv h, if_pos (of_b h)]; rfl
theorem pcs_more {lv : Nat → Int} {k : Nat} {pre : List Nat} (hs : 0 ≤ lv k) (h : begB lv k = false) (hp : begN lv k = pre ++ [bgL lv k]) :
    pcsN lv k = pre.map (fun b => pieceN lv b k) ++ [pieceN lv (bgL lv k) k] ∧ pcsN lv (k + 1) = pre.map (fun b => pieceN lv b k) ++ [pieceN lv (bgL lv k) k ++ [k]] := by
  unfold pcsN
  rw [begN_succ, if_neg (by rw [h]; simp), List.append_nil, hp, List.map_append, List.map_append]
  refine ⟨rfl, ?_⟩
  have hnd : (begN lv k).Pairwise (· < ·) := by unfold begN; exact (List.pairwise_lt_range).filter _
  rw [hp, List.pairwise_append] at hnd
  congr 1
  · apply List.map_congr_left
    intro b hb
    rw [piece_succ, if_neg, List.append_nil]
    have := hnd.2.2 b hb (bgL lv k) (by simp)
    simp [ofB, bg_stay h]; intro _; omega
  · simp only [List.map_cons, List.map_nil]
    rw [piece_succ, if_pos (of_mk hs (bg_stay h))]
/-- Which of the pieces begins at a letter. -/
def nextTo (lv : Nat → Int) (k : Nat) (N : List Int) : Prop := ∀ j, j < k → fn N j = if begB lv j = true then ((begN lv j).length : Int) else -1
def levTo (lv : Nat → Int) (k : Nat) (P : List (Value × Int)) : Prop := P.map (·.2) = (begN lv k).map lv
theorem lev_len {lv : Nat → Int} {k : Nat} {P : List (Value × Int)} (h : levTo lv k P) : P.length = (begN lv k).length := by
  have := congrArg List.length h; simpa using this

theorem lev_split {lv : Nat → Int} {k : Nat} {P : List (Value × Int)} {pre : List Nat} {b : Nat} (h : levTo lv k P) (hp : begN lv k = pre ++ [b]) : ∃ P0 u, P = P0 ++ [(u, lv b)] ∧ P0.length = pre.length := by
  unfold levTo at h
  rw [hp, List.map_append] at h
  rcases List.eq_nil_or_concat P with e | ⟨P0, y, e⟩
  · subst e; simp at h
  · rw [List.concat_eq_append] at e
    subst e
    rw [List.map_append] at h
    have hl : (P0.map (·.2)).length = (pre.map lv).length := by have := congrArg List.length h; simp at this; simpa using this
    obtain ⟨h1, h2⟩ := List.append_inj h hl
    simp at h2 hl
    exact ⟨P0, y.1, by rw [← h2], hl⟩

set_option maxRecDepth 10000 in
set_option maxHeartbeats 8000000 in
theorem implPieces {B T gm gq gl gc n : Nat} {base : Int} {cs M L cls : List Int} (w : World) (h : TT w B T gm gq gl gc n base cs M L cls) (hn80 : n ≤ 1000) :
    Calls Try.prog 43 #[.pointer (some ⟨T, 0, none⟩)] w fun e w' => (∃ v gn P N, e = .returned (.tuple #[v, .slice (some ⟨gn, 0, none⟩) n n]) ∧ gn = w.heap.size ∧ PR w' (w.heap.size + 1) v P (natR (pcsN (fn L) n)) ∧ levTo (fn L) n P ∧ OwnI w' w.heap.size (.slice (some ⟨gn, 0, none⟩) n n) N ∧ nextTo (fn L) n N) ∧ Below w.heap.size w w' := by
  have hmk := fun w => run_make_row' (P := Try.prog) 22 3 (.int .i64 0) 8 Try.underlying22 infoI rfl .i64 .i64 n (by omega) (by omega) w
  have c3 := h.c3
  have H : Hid _ := h
  have hon : OwnI (w.alloc (.cells (madeCells #[.int .i64 0] n) 3)) w.heap.size (.slice (some ⟨w.heap.size, 0, none⟩) n n) (List.replicate n 0) := made_blk (Nat.le_refl _) (heap_alloc_new _ _) (by unfold maxLen; omega)
  have hb0 : Below w.heap.size w (w.alloc (.cells (madeCells #[.int .i64 0] n) 3)) := (Below.refl _ _).alloc (Nat.le_refl _) _
  have hs0 : (w.alloc (.cells (madeCells #[.int .i64 0] n) 3)).heap.size = w.heap.size + 1 := by simp
  have hLlen : Hid (L.length = n) := h.ol.len
  have hLat : Hid (∀ w', Below w.heap.size w w' → ∀ j, j < n → w'.cell? ⟨gl, j, none⟩ = some (.int .i64 (fn L j))) := fun w' hb j hj => (hb.cell (p := ⟨gl, j, none⟩) (h.ol.lt gl rfl).2).trans (h.ol.cellN j hj)
  have HON : Hid (OwnI (w.alloc (.cells (madeCells #[.int .i64 0] n) 3)) w.heap.size (.slice (some ⟨w.heap.size, 0, none⟩) n n) (List.replicate n 0)) := hon
  have HB0 : Hid (Below w.heap.size w (w.alloc (.cells (madeCells #[.int .i64 0] n) 3))) := hb0
  have hc3a : (w.alloc (.cells (madeCells #[.int .i64 0] n) 3)).cell? ⟨T, 3, none⟩ = some (.slice (some ⟨gl, 0, none⟩) n n) := (hb0.cell (p := ⟨T, 3, none⟩) h.lt).trans c3
  have hsz0 : Hid ((w.alloc (.cells (madeCells #[.int .i64 0] n) 3)).heap.size = w.heap.size + 1) := hs0
  clear h hon hb0 hs0
  go_enter Try.func43, Try.ntmps43
  go_wp2_with fail
  clear hmk
  go_loopw [2, 18] (fun v q wr => ∃ (k : Nat) (P : List (Value × Int)) (N : List Int), k ≤ n ∧ q = .int .i64 k ∧ Hid (PR wr (w.heap.size + 1) v P (natR (pcsN (fn L) k))) ∧ Hid (levTo (fn L) k P) ∧ Hid (OwnI wr w.heap.size (.slice (some ⟨w.heap.size, 0, none⟩) n n) N) ∧ Hid (nextTo (fn L) k N) ∧ Hid (Below w.heap.size w wr) ∧ w.heap.size + 1 ≤ wr.heap.size) (fun _ q _ => n - (intOf q).toNat)
  case atStart => exact ⟨0, [], _, Nat.zero_le _, rfl, PR.nil _ _, rfl, HON.out, fun j hj => by omega, HB0.out, by rw [hsz0.out]; exact Nat.le_refl _⟩
  case round =>
    obtain ⟨k, P, N, hk, rfl, hP, hlev, hN, hnx, hbel, hsz⟩ := hrel
    obtain ⟨av, cv, rfl⟩ := hP.out.slc
    by_cases hlt : k < n
    · have hki : (k : Int) < (n : Int) := by omega
      have hck : wr.cell? ⟨gl, k, none⟩ = some (.int .i64 (fn L k)) := hLat.out wr hbel.out k hlt
      have hcn := hN.out.cellN k hlt
      have hfn := hN.out.frozenN k
      have hNl := hN.out.len
      -- next[at] = -1
      obtain ⟨w2, hw2⟩ : ∃ w2, wr.setCell ⟨w.heap.size, k, none⟩ (.int .i64 (-1)) = w2 := ⟨_, rfl⟩
      have HW2 : Hid _ := hw2
      have hN2 : Hid (OwnI w2 w.heap.size (.slice (some ⟨w.heap.size, 0, none⟩) n n) (N.set k (-1))) := by rw [← hw2]; exact hN.out.storedN k (-1)
      have hB2 : Hid (Below w.heap.size w w2) := by rw [← hw2]; exact hbel.out.setCell (Nat.le_refl _) _
      have hsz2 : w.heap.size + 1 ≤ w2.heap.size := by rw [← hw2, World.size_setCell]; exact hsz
      have hP2 : Hid (PR w2 (w.heap.size + 1) (.slice av (natR (pcsN (fn L) k)).length cv) P (natR (pcsN (fn L) k))) := by
        rw [← hw2]
        refine hP.out.kept (fun b hb => heap_setCell_other wr ⟨w.heap.size, k, none⟩ b _ (fun e => ?_))
        rcases hb with hb | ⟨j, hj, hb⟩
        · have := (hP.out.lt b hb).1; have e2 : b = w.heap.size := e; omega
        · have := ((hP.out.row j hj).lt b hb).1; have e2 : b = w.heap.size := e; omega
      clear hw2 hP hN
      have hnxn : ∀ x, x = (if begB (fn L) k = true then ((begN (fn L) k).length : Int) else -1) → ∀ N2 : List Int, fn N2 k = x → (∀ j, j < k → fn N2 j = fn N j) → nextTo (fn L) (k + 1) N2 := by
        intro x hx N2 h1 h2 j hj
        by_cases e : j = k
        · subst e; rw [h1, hx]
        · rw [h2 j (by omega)]; exact hnx.out j (by omega)
      have HNX : Hid _ := hnxn
      clear hnxn hnx
      by_cases hneg : fn L k < 0
      · have hq2 : decide (fn L k < 0) = true := by simpa using hneg
        have hpc := pcs_unseen hneg
        have hbg : begB (fn L) k = false := bg_unseen hneg
        have hbn : begN (fn L) (k + 1) = begN (fn L) k := by rw [begN_succ, if_neg (by rw [hbg]; simp), List.append_nil]
        have HPC : Hid _ := hpc
        have HBG : Hid _ := hbg
        have HBN : Hid _ := hbn
        clear hneg hpc hbg hbn
        go_wp2_with fail
        rw [HW2.out]
        go_roundw
        case rel => exact ⟨k + 1, P, N.set k (-1), by omega, by go_num, by rw [HPC.out]; exact hP2.out, by unfold Hid levTo; rw [HBN.out]; exact hlev.out, hN2.out, HNX.out (-1) (by rw [if_neg (by rw [HBG.out]; simp)]) _ (fn_set_same (by omega)) (fun j hj => fn_set_other (by omega)), hB2.out, hsz2⟩
        case measure => simp only [intOf]; omega
      · have hq2 : decide (fn L k < 0) = false := by simpa using hneg
        by_cases hbg : begB (fn L) k = true
        · have hbegin := begN_last (fn L) k
          obtain ⟨c, hc⟩ : ∃ c, (begN (fn L) k).length = c := ⟨_, rfl⟩
          have hcl : P.length = c := by rw [lev_len hlev.out, hc]
          have hc1 : c ≤ 1000 := by have := begN_len (fn L) k; omega
          obtain ⟨R0, hR0e⟩ : ∃ R0, natR (pcsN (fn L) k) = R0 := ⟨_, rfl⟩
          have hR0l : R0.length = c := by rw [← hR0e, ← hP2.out.len, hcl]
          have HR2 : Hid (natR (pcsN (fn L) (k + 1)) = R0 ++ [[(k : Int)]]) := by unfold Hid; rw [pcs_beg hbg, natR_app, hR0e]; rfl
          have hRl : (natR (pcsN (fn L) k)).length = c := by rw [hR0e, hR0l]
          rw [hRl] at hP2 ⊢
          rw [hR0e] at hP2
          have HR0 : Hid (R0.length = c) := hR0l
          have HPl : Hid (P.length = c) := hcl
          have HBG : Hid (begB (fn L) k = true) := hbg
          have HC : Hid ((begN (fn L) k).length = c) := hc
          have hlev2 : Hid (∀ z, levTo (fn L) (k + 1) (P ++ [(z, fn L k)])) := fun z => by
            have := hlev.out
            unfold levTo at this ⊢
            rw [begN_succ, if_pos hbg, List.map_append, List.map_append, this]; rfl
          obtain ⟨NN, hNN⟩ : ∃ NN, N.set k (-1) = NN := ⟨_, rfl⟩
          have HNN : Hid (N.set k (-1) = NN) := hNN
          have hNNl : k < NN.length := by rw [← hNN, List.length_set]; omega
          rw [hNN] at hN2
          have hcnk := hN2.out.cellN k hlt
          have hfnk := hN2.out.frozenN k
          obtain ⟨w3, hw3⟩ : ∃ w3, w2.setCell ⟨w.heap.size, k, none⟩ (.int .i64 c) = w3 := ⟨_, rfl⟩
          have HW3 : Hid _ := hw3
          have hN3 : Hid (OwnI w3 w.heap.size (.slice (some ⟨w.heap.size, 0, none⟩) n n) (NN.set k c)) := by rw [← hw3]; exact hN2.out.storedN k c
          have hB3 : Hid (Below w.heap.size w w3) := by rw [← hw3]; exact hB2.out.setCell (Nat.le_refl _) _
          have hsz3 : w.heap.size + 1 ≤ w3.heap.size := by rw [← hw3, World.size_setCell]; exact hsz2
          have HP3 : Hid (PR w3 (w.heap.size + 1) (.slice av c cv) P R0) := by
            rw [← hw3]
            refine hP2.out.kept (fun b hb => heap_setCell_other w2 ⟨w.heap.size, k, none⟩ b _ (fun e => ?_))
            rcases hb with hb | ⟨j, hj, hb⟩
            · have := (hP2.out.lt b hb).1; have e2 : b = w.heap.size := e; omega
            · have := ((hP2.out.row j hj).lt b hb).1; have e2 : b = w.heap.size := e; omega
          have HOW : Hid (OwnV 47 2 w3 (w.heap.size + 1) (.slice av c cv) c (pcells P)) := by have := HP3.out.own; rw [hR0l] at this; exact this
          have HBE : Hid _ := hbegin
          have HLT : Hid (k < n) := hlt
          have hpvne : Hid (pvL (fn L) k ≠ fn L k) := beg_pv hbg
          have HLV : Hid _ := hlev.out
          clear hbegin hc hcl hR0e hR0l hRl hbg hNN hw3 hlev
          by_cases hc0 : c = 0
          · have hz : ((c : Int) == 0) = true := by subst hc0; rfl
            clear hc0
            go_upto_region 6 with fail
            rw [HW2.out]
            go_upto_region 9 with fail
            rw [HW3.out]
            go_wp2_with (first | (at_builtin; refine own_appendV (k := 2) (b := 32) (T := 47) (TS := 43) (.tmp 47) (.tmp 50) rfl rowRT Try.underlying43 HOW.out (by omega) (by omega) (by omega) (by omega) rfl (by simp [Value.oneCell']) rfl rfl rfl rfl ?_; intro v4 w4 ho4 hg4 hv4; obtain ⟨g4, c4, rfl, _⟩ := ho4.form1 (by omega); have HP4 : Hid (PR w4 (w.heap.size + 1) (.slice (some ⟨g4, 0, none⟩) (c + 1) c4) (P ++ [(.slice none 0 0, fn L k)]) (R0 ++ [[]])) := PR.snocN HR0.out HP3.out (OwnI.nil _ _) (apart_nil _) (fun j hj => apart_nil _) ho4 hg4 hv4; have HG4 : Hid (World.grownBy w3 w4 (Value.ownBlock (.slice av c cv))) := hg4; obtain ⟨k4, f4⟩ := PR.lastCell HP4.out rfl HPl.out (World.grownBy.refl w4 _); have HS4 : Hid (w.heap.size + 1 ≤ w4.heap.size) := Nat.le_trans hsz3 hg4.size; clear ho4 hg4 hv4) | (at_builtin; refine own_appendV (k := 1) (b := 8) (T := 3) (TS := 45) (.tmp 61) (.tmp 63) rfl rowInt Try.underlying45 (OwnV.nil 3 1 w4 (w.heap.size + 1)) (by omega) HS4.out (by omega) (by omega) rfl (by simp [Value.oneCell']) rfl rfl rfl rfl ?_; intro v8 w8 ho8 hg8 hv8; obtain ⟨g8, c8, rfl, _⟩ := ho8.form1 (by omega); have HO8 : Hid (OwnV 3 1 w8 (w.heap.size + 1) (.slice (some ⟨g8, 0, none⟩) (0 + 1) c8) (0 + 1) ([] ++ [.int .i64 k])) := ho8; have HG8 : Hid (World.grownBy w4 w8 (Value.ownBlock (.slice none 0 0))) := hg8; have HV8 : Hid ((Value.slice (some ⟨g8, 0, none⟩) (0 + 1) c8).ownBlock = Value.ownBlock (.slice none 0 0) ∨ (Value.slice (some ⟨g8, 0, none⟩) (0 + 1) c8).ownBlock = some (w4.heap.size + 1)) := hv8; obtain ⟨k8, f8⟩ := PR.lastCell HP4.out rfl HPl.out HG8.out; clear ho8 hg8 hv8))
            have HS4' := HS4.out
            have HS8 := HG8.out.size
            go_roundw
            case rel =>
              have hfin := PR.last HP4.out rfl HPl.out (u' := .slice (some ⟨g8, 0, none⟩) (0 + 1) c8) (r' := [(k : Int)]) HO8.out HG8.out (by rcases HV8.out with e | e; exact .inl e; exact .inr ⟨_, e, by omega⟩)
              have hz := HP3.out.lt
              have hz4 := (HP4.out.lt g4 rfl).1
              have hN8 : OwnI (w8.setCell ⟨g4, c * 2, none⟩ (.slice (some ⟨g8, 0, none⟩) (0 + 1) c8)) w.heap.size (.slice (some ⟨w.heap.size, 0, none⟩) n n) (NN.set k c) := by
                refine hN3.out.kept (fun b hb => ?_)
                simp [Value.ownBlock] at hb
                subst hb
                refine (heap_setCell_other w8 ⟨g4, c * 2, none⟩ w.heap.size _ (fun e => by have e2 : w.heap.size = g4 := e; omega)).trans ((HG8.out.block _ (by omega) (by simp [Value.ownBlock])).trans (HG4.out.block _ (by omega) (fun e => by have := (hz _ e.symm).1; omega)))
              have hB8 : Below w.heap.size w (w8.setCell ⟨g4, c * 2, none⟩ (.slice (some ⟨g8, 0, none⟩) (0 + 1) c8)) :=
                ((hB3.out.grown HG4.out hB3.out.size (fun q hq => by have := (hz q hq).1; omega)).grown HG8.out (by omega) (fun q hq => by simp [Value.ownBlock] at hq)).setCell (by show w.heap.size ≤ g4; omega) _
              have hsz8 : w.heap.size + 1 ≤ (w8.setCell ⟨g4, c * 2, none⟩ (.slice (some ⟨g8, 0, none⟩) (0 + 1) c8)).heap.size := by
                rw [World.size_setCell]; omega
              refine ⟨k + 1, P ++ [(.slice (some ⟨g8, 0, none⟩) (0 + 1) c8, fn L k)], NN.set k c, by omega, by go_num, ?_, hlev2.out _, hN8, ?_, hB8, hsz8⟩
              · rw [HR2.out]; exact hfin
              · exact HNX.out ((c : Nat) : Int) (by rw [if_pos HBG.out, HC.out]) _ (fn_set_same hNNl) (fun j hj => by rw [fn_set_other (by omega), ← HNN.out, fn_set_other (by omega)])
            case measure => simp only [intOf]; omega
          · obtain ⟨m, hm⟩ : ∃ m, c = m + 1 := ⟨c - 1, by omega⟩
            obtain ⟨g, cp, hvv, _⟩ := HOW.out.form1 (by omega)
            simp only [Value.slice.injEq] at hvv
            obtain ⟨rfl, _, rfl⟩ := hvv
            subst hm
            have hz : ((m : Int) + 1 == 0) = false := by simp; omega
            obtain ⟨_, hcx⟩ := hP2.out.cellAt m (by have := HR0.out; omega)
            obtain ⟨y, hy⟩ : ∃ y, (pN P m).2 = y := ⟨_, rfl⟩
            rw [hy] at hcx
            have hyn : (y == fn L k) = false := by
              have h1 := HBE.out
              rcases h1 with ⟨e, _⟩ | ⟨pre, e, e2⟩
              · have := HC.out; rw [e] at this; simp at this
              · obtain ⟨P0, u, hPe, hP0⟩ := lev_split HLV.out e
                have : pN P m = (u, fn L (bgL (fn L) k)) := by
                  have h3 := HPl.out
                  rw [hPe, List.length_append] at h3
                  simp at h3
                  rw [hPe, ← h3]; exact pN_last _ _
                rw [this] at hy
                have h4 := hpvne.out
                rw [e2] at h4
                simp; rw [← hy]; exact h4
            clear hy hc0
            go_upto_region 6 with fail
            rw [HW2.out]
            go_upto_region 9 with fail
            rw [show w2.setCell ⟨w.heap.size, k, none⟩ (.int .i64 ((m : Int) + 1)) = w3 by have := HW3.out; rw [Int.natCast_add] at this; exact this]
            go_wp2_with (first | (at_builtin; refine own_appendV (k := 2) (b := 32) (T := 47) (TS := 43) (.tmp 47) (.tmp 50) rfl rowRT Try.underlying43 HOW.out (by omega) (by omega) (by omega) (by omega) rfl (by simp [Value.oneCell']) rfl rfl rfl rfl ?_; intro v4 w4 ho4 hg4 hv4; obtain ⟨g4, c4, rfl, _⟩ := ho4.form1 (by omega); have HP4 : Hid (PR w4 (w.heap.size + 1) (.slice (some ⟨g4, 0, none⟩) ((m + 1) + 1) c4) (P ++ [(.slice none 0 0, fn L k)]) (R0 ++ [[]])) := PR.snocN HR0.out HP3.out (OwnI.nil _ _) (apart_nil _) (fun j hj => apart_nil _) ho4 hg4 hv4; have HG4 : Hid (World.grownBy w3 w4 (Value.ownBlock (.slice (some ⟨g, 0, none⟩) (m + 1) cv))) := hg4; obtain ⟨k4, f4⟩ := PR.lastCell HP4.out rfl HPl.out (World.grownBy.refl w4 _); have HS4 : Hid (w.heap.size + 1 ≤ w4.heap.size) := Nat.le_trans hsz3 hg4.size; clear ho4 hg4 hv4) | (at_builtin; refine own_appendV (k := 1) (b := 8) (T := 3) (TS := 45) (.tmp 61) (.tmp 63) rfl rowInt Try.underlying45 (OwnV.nil 3 1 w4 (w.heap.size + 1)) (by omega) HS4.out (by omega) (by omega) rfl (by simp [Value.oneCell']) rfl rfl rfl rfl ?_; intro v8 w8 ho8 hg8 hv8; obtain ⟨g8, c8, rfl, _⟩ := ho8.form1 (by omega); have HO8 : Hid (OwnV 3 1 w8 (w.heap.size + 1) (.slice (some ⟨g8, 0, none⟩) (0 + 1) c8) (0 + 1) ([] ++ [.int .i64 k])) := ho8; have HG8 : Hid (World.grownBy w4 w8 (Value.ownBlock (.slice none 0 0))) := hg8; have HV8 : Hid ((Value.slice (some ⟨g8, 0, none⟩) (0 + 1) c8).ownBlock = Value.ownBlock (.slice none 0 0) ∨ (Value.slice (some ⟨g8, 0, none⟩) (0 + 1) c8).ownBlock = some (w4.heap.size + 1)) := hv8; obtain ⟨k8, f8⟩ := PR.lastCell HP4.out rfl HPl.out HG8.out; clear ho8 hg8 hv8))
            have HS4' := HS4.out
            have HS8 := HG8.out.size
            go_roundw
            case rel =>
              have hfin := PR.last HP4.out rfl HPl.out (u' := .slice (some ⟨g8, 0, none⟩) (0 + 1) c8) (r' := [(k : Int)]) HO8.out HG8.out (by rcases HV8.out with e | e; exact .inl e; exact .inr ⟨_, e, by omega⟩)
              have hz := HP3.out.lt
              have hz4 := (HP4.out.lt g4 rfl).1
              have hN8 : OwnI (w8.setCell ⟨g4, (m + 1) * 2, none⟩ (.slice (some ⟨g8, 0, none⟩) (0 + 1) c8)) w.heap.size (.slice (some ⟨w.heap.size, 0, none⟩) n n) (NN.set k (m + 1)) := by
                refine hN3.out.kept (fun b hb => ?_)
                simp [Value.ownBlock] at hb
                subst hb
                refine (heap_setCell_other w8 ⟨g4, (m + 1) * 2, none⟩ w.heap.size _ (fun e => by have e2 : w.heap.size = g4 := e; omega)).trans ((HG8.out.block _ (by omega) (by simp [Value.ownBlock])).trans (HG4.out.block _ (by omega) (fun e => by have := (hz _ e.symm).1; omega)))
              have hB8 : Below w.heap.size w (w8.setCell ⟨g4, (m + 1) * 2, none⟩ (.slice (some ⟨g8, 0, none⟩) (0 + 1) c8)) :=
                ((hB3.out.grown HG4.out hB3.out.size (fun q hq => by have := (hz q hq).1; omega)).grown HG8.out (by omega) (fun q hq => by simp [Value.ownBlock] at hq)).setCell (by show w.heap.size ≤ g4; omega) _
              have hsz8 : w.heap.size + 1 ≤ (w8.setCell ⟨g4, (m + 1) * 2, none⟩ (.slice (some ⟨g8, 0, none⟩) (0 + 1) c8)).heap.size := by
                rw [World.size_setCell]; omega
              refine ⟨k + 1, P ++ [(.slice (some ⟨g8, 0, none⟩) (0 + 1) c8, fn L k)], NN.set k (m + 1), by omega, by go_num, ?_, hlev2.out _, hN8, ?_, hB8, hsz8⟩
              · rw [HR2.out]; exact hfin
              · exact HNX.out (((m + 1) : Nat) : Int) (by rw [if_pos HBG.out, HC.out]) _ (fn_set_same hNNl) (fun j hj => by rw [fn_set_other (by omega), ← HNN.out, fn_set_other (by omega)])
            case measure => simp only [intOf]; omega
        · have hbg : begB (fn L) k = false := by simpa using hbg
          have hseen : 0 ≤ fn L k := by omega
          have hpv := beg_no hbg hseen
          obtain ⟨pre, hpre, hpvb⟩ : ∃ pre, begN (fn L) k = pre ++ [bgL (fn L) k] ∧ pvL (fn L) k = fn L (bgL (fn L) k) := by
            rcases begN_last (fn L) k with ⟨_, e⟩ | e
            · omega
            · exact e
          obtain ⟨hp1, hp2⟩ := pcs_more hseen hbg hpre
          obtain ⟨P0, u, hPe, hP0⟩ := lev_split hlev.out hpre
          rw [← hpvb, hpv] at hPe
          obtain ⟨m, hm⟩ : ∃ m, P0.length = m := ⟨_, rfl⟩
          obtain ⟨r, hr⟩ : ∃ r, natL (pieceN (fn L) (bgL (fn L) k) k) = r := ⟨_, rfl⟩
          obtain ⟨R0, hR0⟩ : ∃ R0, natR (pre.map (fun b => pieceN (fn L) b k)) = R0 := ⟨_, rfl⟩
          have hrows : natR (pcsN (fn L) k) = R0 ++ [r] := by rw [hp1, natR_app, hR0]; show _ ++ [natL _] = _; rw [hr]
          have hrows2 : natR (pcsN (fn L) (k + 1)) = R0 ++ [r ++ [(k : Int)]] := by rw [hp2, natR_app, hR0]; show _ ++ [natL _] = _; rw [natL_app, hr]; rfl
          have hRl : (natR (pcsN (fn L) k)).length = m + 1 := by rw [← hP2.out.len, hPe, List.length_append, hm]; rfl
          obtain ⟨g, cp, hvv, _, _, hgc, _⟩ := hP2.out.own.form1 (by omega)
          simp only [Value.slice.injEq] at hvv
          obtain ⟨rfl, _, rfl⟩ := hvv
          rw [hRl] at hP2 hgc ⊢
          rw [hrows, hPe] at hP2
          have HPZ : Hid (PR w2 (w.heap.size + 1) (.slice (some ⟨g, 0, none⟩) (m + 1) cv) (P0 ++ [(u, fn L k)]) (R0 ++ [r])) := hP2.out
          have hR0l : R0.length = m := by have := HPZ.out.len; simp at this; omega
          have hcells := HPZ.out.cellAt m (by simp; omega)
          rw [show pN (P0 ++ [(u, fn L k)]) m = (u, fn L k) by rw [← hm]; exact pN_last _ _] at hcells
          obtain ⟨hcu, hcx⟩ := hcells
          have hrowm := HPZ.out.row m (by simp; omega)
          rw [show pN (P0 ++ [(u, fn L k)]) m = (u, fn L k) by rw [← hm]; exact pN_last _ _, show rN (R0 ++ [r]) m = r by rw [← hR0l]; exact rN_last _ _] at hrowm
          obtain ⟨rl, hrl0⟩ : ∃ rl, r.length = rl := ⟨_, rfl⟩
          obtain ⟨RV, hRV0⟩ : ∃ RV, r.map (Value.int .i64) = RV := ⟨_, rfl⟩
          have HU : Hid (OwnV 3 1 w2 (w.heap.size + 1) u rl RV) := by rw [← hrl0, ← hRV0]; exact hrowm
          have hrlen : Hid (r.length = rl) := hrl0
          have hRV : Hid (r.map (Value.int .i64) = RV) := hRV0
          have hrl : rl ≤ 1048576 := by
            rw [← hrl0, ← hr, natL_len]; unfold pieceN; have := List.length_filter_le (ofB (fn L) (bgL (fn L) k)) (List.range k); rw [List.length_range] at this; omega
          have HPM : Hid (P0.length = m) := hm
          have hmk2 : m ≤ 1000 := by have := lev_len hlev.out; rw [hPe] at this; simp at this; have := begN_len (fn L) k; omega
          have hbn : begN (fn L) (k + 1) = begN (fn L) k := by rw [begN_succ, if_neg (by rw [hbg]; simp), List.append_nil]
          have hlev2 : Hid (∀ z, levTo (fn L) (k + 1) (P0 ++ [(z, fn L k)])) := fun z => by
            have := hlev.out
            unfold levTo at this ⊢
            rw [hbn, ← this, hPe]; simp
          have HR2 : Hid (natR (pcsN (fn L) (k + 1)) = R0 ++ [r ++ [(k : Int)]]) := hrows2
          have HBG : Hid (begB (fn L) k = false) := hbg
          obtain ⟨NN, hNN⟩ : ∃ NN, N.set k (-1) = NN := ⟨_, rfl⟩
          have HNN : Hid (N.set k (-1) = NN) := hNN
          rw [hNN] at hN2
          clear hbg hpv hpre hpvb hp1 hp2 hPe hP0 hm hr hR0 hrows hrows2 hRl hR0l hrowm hrl0 hRV0 hbn hP2 hNN hlev
          have hm0 : ((m : Int) + 1 == 0) = false := by simp; omega
          go_upto_region 6 with fail
          rw [HW2.out]
          go_wp2_with (at_builtin; refine own_appendV (k := 1) (b := 8) (T := 3) (TS := 45) (.tmp 61) (.tmp 63) rfl rowInt Try.underlying45 HU.out hrl (by omega) (by omega) (by omega) rfl (by simp [Value.oneCell']) rfl rfl rfl rfl ?_; intro v8 w8 ho8 hgr8 hv8; obtain ⟨g8, c8, rfl, _⟩ := ho8.form1 (by omega); have HO8 : Hid (OwnV 3 1 w8 (w.heap.size + 1) (.slice (some ⟨g8, 0, none⟩) (rl + 1) c8) (rl + 1) (RV ++ [.int .i64 k])) := ho8; have HG8 : Hid (World.grownBy w2 w8 u.ownBlock) := hgr8; have HV8 : Hid ((Value.slice (some ⟨g8, 0, none⟩) (rl + 1) c8).ownBlock = u.ownBlock ∨ (Value.slice (some ⟨g8, 0, none⟩) (rl + 1) c8).ownBlock = some (w2.heap.size + 1)) := hv8; obtain ⟨k8, f8⟩ := PR.lastCell HPZ.out rfl HPM.out HG8.out; clear ho8 hgr8 hv8)
          go_roundw
          case rel =>
            have hz := (HU.out.lt)
            have hfin := PR.last HPZ.out rfl HPM.out (u' := .slice (some ⟨g8, 0, none⟩) (rl + 1) c8) (r' := r ++ [(k : Int)]) (by
              have e : (r ++ [(k : Int)]).length = rl + 1 := by rw [List.length_append, hrlen.out]; rfl
              show World.ownsRow _ _ _ _ _ _ _
              rw [e, List.map_append, hRV.out]; exact HO8.out) HG8.out (by rcases HV8.out with e | e; exact .inl e; exact .inr ⟨_, e, by omega⟩)
            have hN8 : OwnI (w8.setCell ⟨g, m * 2, none⟩ (.slice (some ⟨g8, 0, none⟩) (rl + 1) c8)) w.heap.size (.slice (some ⟨w.heap.size, 0, none⟩) n n) NN := by
              refine hN2.out.kept (fun b hb => ?_)
              simp [Value.ownBlock] at hb
              subst hb
              refine (heap_setCell_other w8 ⟨g, m * 2, none⟩ w.heap.size _ (fun e => by have := (HPZ.out.lt g rfl).1; have e2 : w.heap.size = g := e; omega)).trans (HG8.out.block _ (by omega) (fun e => by have := (hz _ e.symm).1; omega))
            have hB8 : Below w.heap.size w (w8.setCell ⟨g, m * 2, none⟩ (.slice (some ⟨g8, 0, none⟩) (rl + 1) c8)) :=
              (hB2.out.grown HG8.out hB2.out.size (fun q hq => by have := (hz q hq).1; omega)).setCell (by have := (HPZ.out.lt g rfl).1; show w.heap.size ≤ g; omega) _
            have hsz8 : w.heap.size + 1 ≤ (w8.setCell ⟨g, m * 2, none⟩ (.slice (some ⟨g8, 0, none⟩) (rl + 1) c8)).heap.size := by
              rw [World.size_setCell]; have := HG8.out.size; omega
            refine ⟨k + 1, P0 ++ [(.slice (some ⟨g8, 0, none⟩) (rl + 1) c8, fn L k)], NN, by omega, by go_num, ?_, hlev2.out _, hN8, ?_, hB8, hsz8⟩
            · rw [HR2.out]; exact hfin
            · rw [← HNN.out]; exact HNX.out (-1) (by rw [if_neg (by rw [HBG.out]; simp)]) _ (fn_set_same (by omega)) (fun j hj => fn_set_other (by omega))
          case measure => simp only [intOf]; omega
    · have e : k = n := by omega
      subst e
      go_wp2_with fail
      go_ret2
      exact ⟨⟨_, _, P, N, rfl, rfl, hP.out, hlev.out, hN.out, hnx.out⟩, hbel.out⟩
end Go.Proofs.Ytkdmfjnaajedhaa
