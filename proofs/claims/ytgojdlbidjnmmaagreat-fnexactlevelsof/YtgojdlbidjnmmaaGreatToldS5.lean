import Derived.Test.YtgojdlbidjnmmaaGreatToldS4
import Derived.Test.YtgojdlbidjnmmaaGreatToldS2
import Derived.Test.YtgojdlbidjnmmaaGreatSides2
import Derived.Test.YtgojdlbidjnmmaaGreatGrow
namespace Go.Proofs.YtgojdlbidjnmmaaGreat
open Go.ChangeShapes Go.WideShapes Go.ChangeAt Go.RowKit
set_option linter.unusedSimpArgs false
set_option linter.unusedVariables false

theorem step_op {c : Int} (f : Int) (s : TS) (h : c = 19 ∨ c = 20 ∨ c = 21) : stepT c f s = pushT s (rightT c f) 0 true := stepOp f s (by unfold opensB; simp; omega)
theorem step_other {c : Int} (f : Int) (s : TS) (h : ¬ (14 ≤ c ∧ c ≤ 22)) : stepT c f s = s := by
  unfold stepT
  rw [if_neg (by unfold opensB; simp; omega), if_neg (by omega), if_neg (by omega), if_neg (by omega), if_neg (by omega), if_neg (by omega), if_neg (by omega)]

set_option maxHeartbeats 8000000 in
theorem specLetter {W gl gc n B : Nat} {vs : Value} {lv cls : List Int} {s : TS} {base : Int} (b off cap : Nat) (l : List Int) (mt : Nat → Nat) (w : World) (hn : l.length = n) (hn80 : n ≤ 1000) (hb : b < B) (hat : At w b off l) (hmt : Hid (MateFn (cl l) n mt)) (i : Nat) (hi : i < n)
    (h : WIn w B W gl gc n (.slice (some ⟨b, off, none⟩) n cap) vs lv cls s (cntA s.st)) (hg : GoodS base i s) (hb0 : 0 ≤ base) (hB : B ≤ w.heap.size) :
    Calls Tryz.prog 114 #[.pointer (some ⟨W, 0, none⟩), .int .i64 i] w fun e w' => e = .returned (.tuple #[]) ∧ (∃ vs', WIn w' B W gl gc n (.slice (some ⟨b, off, none⟩) n cap) vs' (lvSet (cl l i) s lv i) (clSet (cl l i) s cls i) (stepT (cl l i) (sideFrom (cl l) mt (mt i) (i + 1)) s) (cntA (stepT (cl l i) (sideFrom (cl l) mt (mt i) (i + 1)) s).st)) ∧ Below B w w' := by
  have c0 := h.c0
  have hc := hat i (by omega)
  have hbw : b < w.heap.size := by omega
  have hi0 : (0 : Int) ≤ (i : Int) := by omega
  have hi1 : (i : Int) < (n : Int) := by omega
  obtain ⟨ck, hck⟩ : ∃ ck, bidi (fn l i) = ck := ⟨_, rfl⟩
  have hcl : cl l i = ck := hck
  have HCK : Hid _ := hck
  have HCL : Hid _ := hcl
  obtain ⟨fs, hfs⟩ : ∃ fs, sideFrom (cl l) mt (mt i) (i + 1) = fs := ⟨_, rfl⟩
  have HF : Hid _ := hfs
  rw [hcl, hfs]
  have H : Hid _ := h
  have HG : Hid _ := hg
  have HN : Hid _ := hn
  have hik : i ≤ 1000 := by omega
  have hlen := hg.len
  have hl0 := hg.lost0
  have hlk := hg.lostk
  have hs0 := hg.skip0
  have hsk := hg.skipk
  have hlen1 : s.st.length ≤ 1001 := by omega
  have hl1 : s.lost ≤ 1000 := by omega
  have hs1 : s.skip ≤ 1000 := by omega
  have hne := good_ne hg
  have HNE : Hid _ := hne
  clear h hg hck hcl hfs hn hne hlen hlk hsk
  -- how a push ends
  have hpush : ∀ (w1 : World) (vs1 : Value) (lv1 cls1 : List Int) (right : Bool) (side : Int) (alone : Bool), Below B w w1 → WIn w1 B W gl gc n (.slice (some ⟨b, off, none⟩) n cap) vs1 lv1 cls1 s (cntA s.st) →
      Calls Tryz.prog 138 #[.pointer (some ⟨W, 0, none⟩), .bool right, .int .i64 side, .bool alone] w1 fun e w' => e = .returned (.tuple #[]) ∧ (∃ vs', WIn w' B W gl gc n (.slice (some ⟨b, off, none⟩) n cap) vs' lv1 cls1 (pushT s right side alone) (cntA (pushT s right side alone).st)) ∧ Below B w w' := by
    intro w1 vs1 lv1 cls1 right side alone b1 h1
    refine (specPush w1 h1 HG.out hik hb0 (Nat.le_trans hB b1.size) right side alone).mono ?_
    rintro e w2 ⟨rfl, h2, b2⟩
    exact ⟨rfl, h2, b1.trans b2⟩
  have HP : Hid _ := hpush
  clear hpush
  have hhere : ∀ (w1 : World) (vs1 : Value) (s1 : TS) (al : Int), GoodS base i s1 → Below B w w1 → WIn w1 B W gl gc n (.slice (some ⟨b, off, none⟩) n cap) vs1 lv cls s1 al →
      Calls Tryz.prog 140 #[.pointer (some ⟨W, 0, none⟩), .int .i64 i, .int .i64 ck] w1 fun e w' => e = .returned (.tuple #[]) ∧ WIn w' B W gl gc n (.slice (some ⟨b, off, none⟩) n cap) vs1 (lv.set i (topL s1.st)) (cls.set i (sdT s1.st ck)) s1 al ∧ Below B w w' := by
    intro w1 vs1 s1 al g1 b1 h1
    refine (specHere w1 h1 g1 hik (Nat.le_trans hB b1.size) i hi ck).mono ?_
    rintro e w2 ⟨rfl, h2, b2⟩
    exact ⟨rfl, h2, b1.trans b2⟩
  have HH : Hid _ := hhere
  clear hhere
  by_cases q15 : ck = 15
  · subst q15
    rw [show stepT 15 fs s = pushT s true 0 false from rfl, show lvSet 15 s lv i = lv from rfl, show clSet 15 s cls i = cls from rfl]
    go_enter Tryz.func114, Tryz.ntmps114
    go_wp2_with (first | (go_at_call 10; refine (specBidi _ _).mono ?_; rintro e w1 ⟨rfl, b1⟩; rw [HCK.out]) | (go_at_call 138; refine (HP.out _ _ _ _ _ _ _ (b1.mono hB) (H.out.below b1)).mono ?_; rintro e w2 ⟨rfl, h2, b2⟩))
    go_end0
    exact ⟨rfl, h2, b2⟩
  by_cases q14 : ck = 14
  · subst q14
    rw [show stepT 14 fs s = pushT s false 0 false from rfl, show lvSet 14 s lv i = lv from rfl, show clSet 14 s cls i = cls from rfl]
    go_enter Tryz.func114, Tryz.ntmps114
    go_wp2_with (first | (go_at_call 10; refine (specBidi _ _).mono ?_; rintro e w1 ⟨rfl, b1⟩; rw [HCK.out]) | (go_at_call 138; refine (HP.out _ _ _ _ _ _ _ (b1.mono hB) (H.out.below b1)).mono ?_; rintro e w2 ⟨rfl, h2, b2⟩))
    go_end0
    exact ⟨rfl, h2, b2⟩
  by_cases q18 : ck = 18
  · subst q18
    rw [show stepT 18 fs s = pushT s true 2 false from rfl, show lvSet 18 s lv i = lv from rfl, show clSet 18 s cls i = cls from rfl]
    go_enter Tryz.func114, Tryz.ntmps114
    go_wp2_with (first | (go_at_call 10; refine (specBidi _ _).mono ?_; rintro e w1 ⟨rfl, b1⟩; rw [HCK.out]) | (go_at_call 138; refine (HP.out _ _ _ _ _ _ _ (b1.mono hB) (H.out.below b1)).mono ?_; rintro e w2 ⟨rfl, h2, b2⟩))
    go_end0
    exact ⟨rfl, h2, b2⟩
  by_cases q17 : ck = 17
  · subst q17
    rw [show stepT 17 fs s = pushT s false 1 false from rfl, show lvSet 17 s lv i = lv from rfl, show clSet 17 s cls i = cls from rfl]
    go_enter Tryz.func114, Tryz.ntmps114
    go_wp2_with (first | (go_at_call 10; refine (specBidi _ _).mono ?_; rintro e w1 ⟨rfl, b1⟩; rw [HCK.out]) | (go_at_call 138; refine (HP.out _ _ _ _ _ _ _ (b1.mono hB) (H.out.below b1)).mono ?_; rintro e w2 ⟨rfl, h2, b2⟩))
    go_end0
    exact ⟨rfl, h2, b2⟩
  by_cases q16 : ck = 16
  · subst q16
    rw [show stepT 16 fs s = dropT s from rfl, show lvSet 16 s lv i = lv from rfl, show clSet 16 s cls i = cls from rfl]
    go_enter Tryz.func114, Tryz.ntmps114
    go_wp2_with (first | (go_at_call 10; refine (specBidi _ _).mono ?_; rintro e w1 ⟨rfl, b1⟩; rw [HCK.out]) | (go_at_call 139; refine (specDrops _ (H.out.below b1) HNE.out hlen1 hl0 hl1 hs0 hs1 (Nat.le_trans hB b1.size)).mono ?_; rintro e w2 ⟨rfl, h2, b2⟩))
    go_end0
    exact ⟨rfl, h2, (b1.mono hB).trans b2⟩
  by_cases q10 : ck = 10
  · subst q10
    rw [show stepT 10 fs s = s from rfl, show lvSet 10 s lv i = lv from rfl, show clSet 10 s cls i = cls from rfl]
    go_enter Tryz.func114, Tryz.ntmps114
    go_wp2_with (first | (go_at_call 10; refine (specBidi _ _).mono ?_; rintro e w1 ⟨rfl, b1⟩; rw [HCK.out]))
    go_end0
    exact ⟨rfl, ⟨_, H.out.below b1⟩, b1.mono hB⟩
  by_cases q22 : ck = 22
  · subst q22
    rw [show stepT 22 fs s = endT s from rfl, show lvSet 22 s lv i = lv.set i (topL (endT s).st) from rfl, show clSet 22 s cls i = cls.set i (sdT (endT s).st 22) from rfl]
    go_enter Tryz.func114, Tryz.ntmps114
    go_wp2_with (first | (go_at_call 10; refine (specBidi _ _).mono ?_; rintro e w1 ⟨rfl, b1⟩; rw [HCK.out]) | (go_at_call 142; refine (specEnds _ (H.out.below b1) hlen1 hl0 hl1 (Nat.le_trans hB b1.size)).mono ?_; rintro e w2 ⟨rfl, ⟨vs2, h2⟩, b2⟩) | (go_at_call 140; refine (HH.out _ _ _ _ (good_end HG.out) ((b1.mono hB).trans b2) h2).mono ?_; rintro e w3 ⟨rfl, h3, b3⟩))
    go_end0
    exact ⟨rfl, ⟨_, h3⟩, b3⟩
  by_cases q20 : ck = 20
  · subst q20
    rw [show stepT 20 fs s = pushT s true 0 true from rfl, show lvSet 20 s lv i = lv.set i (topL s.st) from rfl, show clSet 20 s cls i = cls.set i (sdT s.st 20) from rfl]
    go_enter Tryz.func114, Tryz.ntmps114
    go_wp2_with (first | (go_at_call 10; refine (specBidi _ _).mono ?_; rintro e w1 ⟨rfl, b1⟩; rw [HCK.out]) | (go_at_call 140; refine (HH.out _ _ _ _ HG.out (b1.mono hB) (H.out.below b1)).mono ?_; rintro e w2 ⟨rfl, h2, b2⟩) | (go_at_call 138; refine (HP.out _ _ _ _ _ _ _ b2 h2).mono ?_; rintro e w3 ⟨rfl, h3, b3⟩))
    go_end0
    exact ⟨rfl, h3, b3⟩
  by_cases q19 : ck = 19
  · subst q19
    rw [show stepT 19 fs s = pushT s false 0 true from rfl, show lvSet 19 s lv i = lv.set i (topL s.st) from rfl, show clSet 19 s cls i = cls.set i (sdT s.st 19) from rfl]
    go_enter Tryz.func114, Tryz.ntmps114
    go_wp2_with (first | (go_at_call 10; refine (specBidi _ _).mono ?_; rintro e w1 ⟨rfl, b1⟩; rw [HCK.out]) | (go_at_call 140; refine (HH.out _ _ _ _ HG.out (b1.mono hB) (H.out.below b1)).mono ?_; rintro e w2 ⟨rfl, h2, b2⟩) | (go_at_call 138; refine (HP.out _ _ _ _ _ _ _ b2 h2).mono ?_; rintro e w3 ⟨rfl, h3, b3⟩))
    go_end0
    exact ⟨rfl, h3, b3⟩
  by_cases q21 : ck = 21
  · subst q21
    obtain ⟨rt, hrt⟩ : ∃ rt, (fs == 1) = rt := ⟨_, rfl⟩
    have hst : stepT 21 fs s = pushT s rt 0 true := by
      rw [step_op fs s (by omega)]
      have : rightT 21 fs = rt := by rw [← hrt]; unfold rightT; rw [Bool.eq_iff_iff]; simp
      rw [this]
    have HRT : Hid _ := hrt
    rw [hst, show lvSet 21 s lv i = lv.set i (topL s.st) from rfl, show clSet 21 s cls i = cls.set i (sdT s.st 21) from rfl]
    have hop : opensB (cl l i) = true := by rw [HCL.out]; rfl
    have hmi := mt_gt hmt.out hi hop
    have HOP : Hid _ := hop
    clear hst hrt hop
    go_enter Tryz.func114, Tryz.ntmps114
    go_wp2_with (first | (go_at_call 10; refine (specBidi _ _).mono ?_; rintro e w1 ⟨rfl, b1⟩; rw [HCK.out]) | (go_at_call 140; refine (HH.out _ _ _ _ HG.out (b1.mono hB) (H.out.below b1)).mono ?_; rintro e w2 ⟨rfl, h2, b2⟩))
    have e0 := Gr.cell h2.c0 h2.lt
    have hn4 : n ≤ 4194304 := by omega
    have hbw2 : b < w2.heap.size := Nat.lt_of_lt_of_le hbw b2.size
    have hat2 : At w2 b off l := hat.below b2 hb
    have hwi : IntKind.i64.wrap ((i : Int) + 1) = (i : Int) + 1 := by rw [IntKind.wrap_i64]; omega
    have hii : (i : Int) + 1 = ((i + 1 : Nat) : Int) := by omega
    have HII : Hid _ := hii
    clear hii
    have hGm : ∀ u : Gr w2, Calls Tryz.prog 121 #[.slice (some ⟨b, off, none⟩) n cap, .int .i64 (i : Int)] u.1 fun e w' => e = .returned (.int .i64 (mt i : Int)) ∧ Below u.1.heap.size u.1 w' := fun u =>
      specMateL b off cap n l mt _ i _ HN.out (Nat.lt_of_lt_of_le hbw2 u.2.size) (hat2.below u.2 hbw2) hn4 hmt rfl hi HOP.out
    have hGb : ∀ u : Gr w2, Calls Tryz.prog 141 #[.slice (some ⟨b, off, none⟩) n cap, .int .i64 ((i : Int) + 1), .int .i64 (mt i : Int)] u.1 fun e w' => e = .returned (.int .i64 fs) ∧ Below u.1.heap.size u.1 w' := fun u => by
      rw [← HF.out]
      exact specBaseL b off cap n l mt _ _ (i + 1) (mt i) _ HN.out (Nat.lt_of_lt_of_le hbw2 u.2.size) (hat2.below u.2 hbw2) hn4 hmt HII.out rfl (by omega) hmi.2
    have HGM : Hid _ := hGm
    have HGB : Hid _ := hGb
    clear hGm hGb
    refine wp_region_grow (by kernel_rfl) (by kernel_rfl) ?_
    intro hneGr
    repeat (go_big_quiet_step ((first
      | (go_at_call 121; exact Calls.grow_of (HGM.out _))
      | (go_at_call 141; exact Calls.grow_of (HGB.out _)))))
    refine wpQuiet_nil ?_
    intro w5 hu5
    have b5 := gr_out hu5
    clear hu5 e0
    rw [HRT.out]
    go_wp2_with (first | (go_at_call 138; refine (HP.out _ _ _ _ _ _ _ (b2.trans (b5.mono (Nat.le_trans hB b2.size))) (h2.below b5)).mono ?_; rintro e w3 ⟨rfl, h3, b3⟩))
    go_end0
    exact ⟨rfl, h3, b3⟩
  have hno : ¬ (14 ≤ ck ∧ ck ≤ 22) := by omega
  have htl : tellsB ck = false := by unfold tellsB; simp; omega
  have hel : lvSet ck s lv i = lv.set i (topL s.st) := by unfold lvSet atT; rw [if_neg (by rw [htl]; simp), if_neg q22]
  have hec : clSet ck s cls i = cls.set i (sdT s.st ck) := by unfold clSet atT; rw [if_neg (by rw [htl]; simp), if_neg q22]
  rw [step_other fs s hno, hel, hec]
  have p15 : (ck == 15) = false := by simpa using q15
  have p14 : (ck == 14) = false := by simpa using q14
  have p18 : (ck == 18) = false := by simpa using q18
  have p17 : (ck == 17) = false := by simpa using q17
  have p16 : (ck == 16) = false := by simpa using q16
  have p10 : (ck == 10) = false := by simpa using q10
  have p20 : (ck == 20) = false := by simpa using q20
  have p19 : (ck == 19) = false := by simpa using q19
  have p21 : (ck == 21) = false := by simpa using q21
  have p22 : (ck == 22) = false := by simpa using q22
  clear q10 q14 q15 q16 q17 q18 q19 q20 q21 q22 hno htl hel hec
  go_enter Tryz.func114, Tryz.ntmps114
  go_wp2_with (first | (go_at_call 10; refine (specBidi _ _).mono ?_; rintro e w1 ⟨rfl, b1⟩; rw [HCK.out]) | (go_at_call 140; refine (HH.out _ _ _ _ HG.out (b1.mono hB) (H.out.below b1)).mono ?_; rintro e w2 ⟨rfl, h2, b2⟩))
  go_end0
  exact ⟨rfl, ⟨_, h2⟩, b2⟩
end Go.Proofs.YtgojdlbidjnmmaaGreat
