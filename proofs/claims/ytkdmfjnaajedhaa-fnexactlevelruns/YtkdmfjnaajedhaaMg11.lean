import Derived.Test.YtkdmfjnaajedhaaMg2
import Derived.BigQuiet
import Derived.Test.YtkdmfjnaajedhaaMg10
import Derived.Test.YtkdmfjnaajedhaaMg8
import Derived.Test.YtkdmfjnaajedhaaMg3
import Derived.Test.YtkdmfjnaajedhaaMg6
import Derived.Test.YtkdmfjnaajedhaaMg7
namespace Go.Proofs.Ytkdmfjnaajedhaa
open Go.ChangeShapes Go.WideShapes Go.ChangeAt Go.RowKit

/-- The worlds that have grown out of one: nothing old has turned. -/
def Gr (w : World) : Type := {w' : World // Below w.heap.size w w'}
/-- A region that draws its order, whose operations read and whose calls make memory of their own: one walk of the text's order serves every order. -/
theorem wp_region_grow {P : Program} {id : Nat} {Q : Exit → Act → World → Prop} {a : Act} {w : World} {l : List Oper} (hm : P.follows .mixedOrders = true) (hB : Region.lexB .any l.toArray = true)
    (h : Nonempty (Gr w) → wpQuiet P l.toArray (fun w' => ∃ u : Gr w, w' = u.1) (fun a' => ∀ w', (∃ u : Gr w, w' = u.1) → Q .normal a' w') l a) : (Code.region id l.toArray true).wp P Q a w :=
  wp_region_quiet (C := fun w' => ∃ u : Gr w, w' = u.1) hm hB ⟨⟨w.drewN 1, below_draws w 1⟩, rfl⟩ (by simpa using h ⟨⟨w, Below.refl _ _⟩⟩)
theorem Gr.cell {w : World} {b o : Nat} {v : Value} (h : w.cell? ⟨b, o, none⟩ = some v) (hb : b < w.heap.size) (u : Gr w) : u.1.cell? ⟨b, o, none⟩ = some v := (u.2.cell (p := ⟨b, o, none⟩) hb).trans h
theorem gr_out {w w' : World} (h : ∃ u : Gr w, w' = u.1) : Below w.heap.size w w' := by
  obtain ⟨u, rfl⟩ := h; exact u.2
/-- A callee's contract, met in a world that has grown. -/
theorem Calls.grow_of {P : Program} {f : FuncId} {args : Array Value} {w : World} {u : Gr w} {v : Value}
    (h : Calls P f args u.1 fun e w' => e = .returned v ∧ Below u.1.heap.size u.1 w') : Calls P f args u.1 fun e w'' => e = .returned v ∧ ∃ m : Gr w, w'' = m.1 :=
  h.mono fun _ w' ⟨he, hb⟩ => ⟨he, ⟨w', bstep u.2 hb⟩, rfl⟩
theorem Calls.grow_of_same {P : Program} {f : FuncId} {args : Array Value} {w : World} {u : Gr w} {v : Value}
    (h : Calls P f args u.1 fun e w' => e = .returned v ∧ w' = u.1) : Calls P f args u.1 fun e w'' => e = .returned v ∧ ∃ m : Gr w, w'' = m.1 :=
  h.mono fun _ _ ⟨he, hb⟩ => ⟨he, u, hb⟩
end Go.Proofs.Ytkdmfjnaajedhaa
namespace Go.Proofs.Ytkdmfjnaajedhaa
open Go.ChangeShapes Go.WideShapes Go.ChangeAt Go.RowKit
set_option linter.unusedSimpArgs false
set_option linter.unusedVariables false

theorem step_op {c : Int} (f : Int) (s : TS) (h : c = 19 ∨ c = 20 ∨ c = 21) : stepT c f s = pushT s (rightT c f) 0 true := stepOp f s (by unfold opensB; simp; omega)
theorem step_other {c : Int} (f : Int) (s : TS) (h : ¬ (14 ≤ c ∧ c ≤ 22)) : stepT c f s = s := by
  unfold stepT
  rw [if_neg (by unfold opensB; simp; omega), if_neg (by omega), if_neg (by omega), if_neg (by omega), if_neg (by omega), if_neg (by omega), if_neg (by omega)]

set_option maxHeartbeats 8000000 in
theorem specLetter {W gl gc n B : Nat} {vs : Value} {lv cls : List Int} {s : TS} {base : Int} (b off cap : Nat) (l : List Int) (mt : Nat → Nat) (w : World) (hn : l.length = n) (hn80 : n ≤ 1000) (hb : b < B) (hat : At w b off l) (hmt : Hid (MateFn (cl l) n mt)) (i : Nat) (hi : i < n)
    (h : WIn w B W gl gc n (.slice (some ⟨b, off, none⟩) n cap) vs lv cls s (cntA s.st)) (hg : GoodS base i s) (hb0 : 0 ≤ base) (hB : B ≤ w.heap.size) :
    Calls Try.prog 34 #[.pointer (some ⟨W, 0, none⟩), .int .i64 i] w fun e w' => e = .returned (.tuple #[]) ∧ (∃ vs', WIn w' B W gl gc n (.slice (some ⟨b, off, none⟩) n cap) vs' (lvSet (cl l i) s lv i) (clSet (cl l i) s cls i) (stepT (cl l i) (sideFrom (cl l) mt (mt i) (i + 1)) s) (cntA (stepT (cl l i) (sideFrom (cl l) mt (mt i) (i + 1)) s).st)) ∧ Below B w w' := by
  have c0 := h.c0
  have hc := hat i (by omega)
  have hbw : b < w.heap.size := by omega
  have hi0 : (0 : Int) ≤ (i : Int) := by omega
  have hi1 : (i : Int) < (n : Int) := by omega
  obtain ⟨ck, hck⟩ : ∃ ck, bidi (fn l i) = ck := ⟨_, rfl⟩
  have hcl : cl l i = ck := hck
  have HCK : Hid _ := hck
  have HCL : Hid _ := hcl
  obtain ⟨fs, hfs⟩ : ∃ fs, sideFrom (cl l) mt (mt i) (i + 1) = fs := ⟨_, rfl⟩
  have HF : Hid _ := hfs
  rw [hcl, hfs]
  have H : Hid _ := h
  have HG : Hid _ := hg
  have HN : Hid _ := hn
  have hik : i ≤ 1000 := by omega
  have hlen := hg.len
  have hl0 := hg.lost0
  have hlk := hg.lostk
  have hs0 := hg.skip0
  have hsk := hg.skipk
  have hlen1 : s.st.length ≤ 1001 := by omega
  have hl1 : s.lost ≤ 1000 := by omega
  have hs1 : s.skip ≤ 1000 := by omega
  have hne := good_ne hg
  have HNE : Hid _ := hne
  clear h hg hck hcl hfs hn hne hlen hlk hsk
  -- how a push ends
  have hpush : ∀ (w1 : World) (vs1 : Value) (lv1 cls1 : List Int) (right : Bool) (side : Int) (alone : Bool), Below B w w1 → WIn w1 B W gl gc n (.slice (some ⟨b, off, none⟩) n cap) vs1 lv1 cls1 s (cntA s.st) →
      Calls Try.prog 51 #[.pointer (some ⟨W, 0, none⟩), .bool right, .int .i64 side, .bool alone] w1 fun e w' => e = .returned (.tuple #[]) ∧ (∃ vs', WIn w' B W gl gc n (.slice (some ⟨b, off, none⟩) n cap) vs' lv1 cls1 (pushT s right side alone) (cntA (pushT s right side alone).st)) ∧ Below B w w' := by
    intro w1 vs1 lv1 cls1 right side alone b1 h1
    refine (specPush w1 h1 HG.out hik hb0 (Nat.le_trans hB b1.size) right side alone).mono ?_
    rintro e w2 ⟨rfl, h2, b2⟩
    exact ⟨rfl, h2, b1.trans b2⟩
  have HP : Hid _ := hpush
  clear hpush
  have hhere : ∀ (w1 : World) (vs1 : Value) (s1 : TS) (al : Int), GoodS base i s1 → Below B w w1 → WIn w1 B W gl gc n (.slice (some ⟨b, off, none⟩) n cap) vs1 lv cls s1 al →
      Calls Try.prog 53 #[.pointer (some ⟨W, 0, none⟩), .int .i64 i, .int .i64 ck] w1 fun e w' => e = .returned (.tuple #[]) ∧ WIn w' B W gl gc n (.slice (some ⟨b, off, none⟩) n cap) vs1 (lv.set i (topL s1.st)) (cls.set i (sdT s1.st ck)) s1 al ∧ Below B w w' := by
    intro w1 vs1 s1 al g1 b1 h1
    refine (specHere w1 h1 g1 hik (Nat.le_trans hB b1.size) i hi ck).mono ?_
    rintro e w2 ⟨rfl, h2, b2⟩
    exact ⟨rfl, h2, b1.trans b2⟩
  have HH : Hid _ := hhere
  clear hhere
  by_cases q15 : ck = 15
  · subst q15
    rw [show stepT 15 fs s = pushT s true 0 false from rfl, show lvSet 15 s lv i = lv from rfl, show clSet 15 s cls i = cls from rfl]
    go_enter Try.func34, Try.ntmps34
    go_wp2_with (first | (go_at_call 40; refine (specBidi _ _).mono ?_; rintro e w1 ⟨rfl, b1⟩; rw [HCK.out]) | (go_at_call 51; refine (HP.out _ _ _ _ _ _ _ (b1.mono hB) (H.out.below b1)).mono ?_; rintro e w2 ⟨rfl, h2, b2⟩))
    go_end0
    exact ⟨rfl, h2, b2⟩
  by_cases q14 : ck = 14
  · subst q14
    rw [show stepT 14 fs s = pushT s false 0 false from rfl, show lvSet 14 s lv i = lv from rfl, show clSet 14 s cls i = cls from rfl]
    go_enter Try.func34, Try.ntmps34
    go_wp2_with (first | (go_at_call 40; refine (specBidi _ _).mono ?_; rintro e w1 ⟨rfl, b1⟩; rw [HCK.out]) | (go_at_call 51; refine (HP.out _ _ _ _ _ _ _ (b1.mono hB) (H.out.below b1)).mono ?_; rintro e w2 ⟨rfl, h2, b2⟩))
    go_end0
    exact ⟨rfl, h2, b2⟩
  by_cases q18 : ck = 18
  · subst q18
    rw [show stepT 18 fs s = pushT s true 2 false from rfl, show lvSet 18 s lv i = lv from rfl, show clSet 18 s cls i = cls from rfl]
    go_enter Try.func34, Try.ntmps34
    go_wp2_with (first | (go_at_call 40; refine (specBidi _ _).mono ?_; rintro e w1 ⟨rfl, b1⟩; rw [HCK.out]) | (go_at_call 51; refine (HP.out _ _ _ _ _ _ _ (b1.mono hB) (H.out.below b1)).mono ?_; rintro e w2 ⟨rfl, h2, b2⟩))
    go_end0
    exact ⟨rfl, h2, b2⟩
  by_cases q17 : ck = 17
  · subst q17
    rw [show stepT 17 fs s = pushT s false 1 false from rfl, show lvSet 17 s lv i = lv from rfl, show clSet 17 s cls i = cls from rfl]
    go_enter Try.func34, Try.ntmps34
    go_wp2_with (first | (go_at_call 40; refine (specBidi _ _).mono ?_; rintro e w1 ⟨rfl, b1⟩; rw [HCK.out]) | (go_at_call 51; refine (HP.out _ _ _ _ _ _ _ (b1.mono hB) (H.out.below b1)).mono ?_; rintro e w2 ⟨rfl, h2, b2⟩))
    go_end0
    exact ⟨rfl, h2, b2⟩
  by_cases q16 : ck = 16
  · subst q16
    rw [show stepT 16 fs s = dropT s from rfl, show lvSet 16 s lv i = lv from rfl, show clSet 16 s cls i = cls from rfl]
    go_enter Try.func34, Try.ntmps34
    go_wp2_with (first | (go_at_call 40; refine (specBidi _ _).mono ?_; rintro e w1 ⟨rfl, b1⟩; rw [HCK.out]) | (go_at_call 52; refine (specDrops _ (H.out.below b1) HNE.out hlen1 hl0 hl1 hs0 hs1 (Nat.le_trans hB b1.size)).mono ?_; rintro e w2 ⟨rfl, h2, b2⟩))
    go_end0
    exact ⟨rfl, h2, (b1.mono hB).trans b2⟩
  by_cases q10 : ck = 10
  · subst q10
    rw [show stepT 10 fs s = s from rfl, show lvSet 10 s lv i = lv from rfl, show clSet 10 s cls i = cls from rfl]
    go_enter Try.func34, Try.ntmps34
    go_wp2_with (first | (go_at_call 40; refine (specBidi _ _).mono ?_; rintro e w1 ⟨rfl, b1⟩; rw [HCK.out]))
    go_end0
    exact ⟨rfl, ⟨_, H.out.below b1⟩, b1.mono hB⟩
  by_cases q22 : ck = 22
  · subst q22
    rw [show stepT 22 fs s = endT s from rfl, show lvSet 22 s lv i = lv.set i (topL (endT s).st) from rfl, show clSet 22 s cls i = cls.set i (sdT (endT s).st 22) from rfl]
    go_enter Try.func34, Try.ntmps34
    go_wp2_with (first | (go_at_call 40; refine (specBidi _ _).mono ?_; rintro e w1 ⟨rfl, b1⟩; rw [HCK.out]) | (go_at_call 56; refine (specEnds _ (H.out.below b1) hlen1 hl0 hl1 (Nat.le_trans hB b1.size)).mono ?_; rintro e w2 ⟨rfl, ⟨vs2, h2⟩, b2⟩) | (go_at_call 53; refine (HH.out _ _ _ _ (good_end HG.out) ((b1.mono hB).trans b2) h2).mono ?_; rintro e w3 ⟨rfl, h3, b3⟩))
    go_end0
    exact ⟨rfl, ⟨_, h3⟩, b3⟩
  by_cases q20 : ck = 20
  · subst q20
    rw [show stepT 20 fs s = pushT s true 0 true from rfl, show lvSet 20 s lv i = lv.set i (topL s.st) from rfl, show clSet 20 s cls i = cls.set i (sdT s.st 20) from rfl]
    go_enter Try.func34, Try.ntmps34
    go_wp2_with (first | (go_at_call 40; refine (specBidi _ _).mono ?_; rintro e w1 ⟨rfl, b1⟩; rw [HCK.out]) | (go_at_call 53; refine (HH.out _ _ _ _ HG.out (b1.mono hB) (H.out.below b1)).mono ?_; rintro e w2 ⟨rfl, h2, b2⟩) | (go_at_call 51; refine (HP.out _ _ _ _ _ _ _ b2 h2).mono ?_; rintro e w3 ⟨rfl, h3, b3⟩))
    go_end0
    exact ⟨rfl, h3, b3⟩
  by_cases q19 : ck = 19
  · subst q19
    rw [show stepT 19 fs s = pushT s false 0 true from rfl, show lvSet 19 s lv i = lv.set i (topL s.st) from rfl, show clSet 19 s cls i = cls.set i (sdT s.st 19) from rfl]
    go_enter Try.func34, Try.ntmps34
    go_wp2_with (first | (go_at_call 40; refine (specBidi _ _).mono ?_; rintro e w1 ⟨rfl, b1⟩; rw [HCK.out]) | (go_at_call 53; refine (HH.out _ _ _ _ HG.out (b1.mono hB) (H.out.below b1)).mono ?_; rintro e w2 ⟨rfl, h2, b2⟩) | (go_at_call 51; refine (HP.out _ _ _ _ _ _ _ b2 h2).mono ?_; rintro e w3 ⟨rfl, h3, b3⟩))
    go_end0
    exact ⟨rfl, h3, b3⟩
  by_cases q21 : ck = 21
  · subst q21
    obtain ⟨rt, hrt⟩ : ∃ rt, (fs == 1) = rt := ⟨_, rfl⟩
    have hst : stepT 21 fs s = pushT s rt 0 true := by
      rw [step_op fs s (by omega)]
      have : rightT 21 fs = rt := by rw [← hrt]; unfold rightT; rw [Bool.eq_iff_iff]; simp
      rw [this]
    have HRT : Hid _ := hrt
    rw [hst, show lvSet 21 s lv i = lv.set i (topL s.st) from rfl, show clSet 21 s cls i = cls.set i (sdT s.st 21) from rfl]
    have hop : opensB (cl l i) = true := by rw [HCL.out]; rfl
    have hmi := mt_gt hmt.out hi hop
    have HOP : Hid _ := hop
    clear hst hrt hop
    go_enter Try.func34, Try.ntmps34
    go_wp2_with (first | (go_at_call 40; refine (specBidi _ _).mono ?_; rintro e w1 ⟨rfl, b1⟩; rw [HCK.out]) | (go_at_call 53; refine (HH.out _ _ _ _ HG.out (b1.mono hB) (H.out.below b1)).mono ?_; rintro e w2 ⟨rfl, h2, b2⟩))
    have e0 := Gr.cell h2.c0 h2.lt
    have hn4 : n ≤ 4194304 := by omega
    have hbw2 : b < w2.heap.size := Nat.lt_of_lt_of_le hbw b2.size
    have hat2 : At w2 b off l := hat.below b2 hb
    have hwi : IntKind.i64.wrap ((i : Int) + 1) = (i : Int) + 1 := by rw [IntKind.wrap_i64]; omega
    have hii : (i : Int) + 1 = ((i + 1 : Nat) : Int) := by omega
    have HII : Hid _ := hii
    clear hii
    have hGm : ∀ u : Gr w2, Calls Try.prog 55 #[.slice (some ⟨b, off, none⟩) n cap, .int .i64 (i : Int)] u.1 fun e w' => e = .returned (.int .i64 (mt i : Int)) ∧ Below u.1.heap.size u.1 w' := fun u =>
      specMateL b off cap n l mt _ i _ HN.out (Nat.lt_of_lt_of_le hbw2 u.2.size) (hat2.below u.2 hbw2) hn4 hmt rfl hi HOP.out
    have hGb : ∀ u : Gr w2, Calls Try.prog 54 #[.slice (some ⟨b, off, none⟩) n cap, .int .i64 ((i : Int) + 1), .int .i64 (mt i : Int)] u.1 fun e w' => e = .returned (.int .i64 fs) ∧ Below u.1.heap.size u.1 w' := fun u => by
      rw [← HF.out]
      exact specBaseL b off cap n l mt _ _ (i + 1) (mt i) _ HN.out (Nat.lt_of_lt_of_le hbw2 u.2.size) (hat2.below u.2 hbw2) hn4 hmt HII.out rfl (by omega) hmi.2
    have HGM : Hid _ := hGm
    have HGB : Hid _ := hGb
    clear hGm hGb
    refine wp_region_grow (by kernel_rfl) (by kernel_rfl) ?_
    intro hneGr
    repeat (go_big_quiet_step ((first
      | (go_at_call 55; exact Calls.grow_of (HGM.out _))
      | (go_at_call 54; exact Calls.grow_of (HGB.out _)))))
    refine wpQuiet_nil ?_
    intro w5 hu5
    have b5 := gr_out hu5
    clear hu5 e0
    rw [HRT.out]
    go_wp2_with (first | (go_at_call 51; refine (HP.out _ _ _ _ _ _ _ (b2.trans (b5.mono (Nat.le_trans hB b2.size))) (h2.below b5)).mono ?_; rintro e w3 ⟨rfl, h3, b3⟩))
    go_end0
    exact ⟨rfl, h3, b3⟩
  have hno : ¬ (14 ≤ ck ∧ ck ≤ 22) := by omega
  have htl : tellsB ck = false := by unfold tellsB; simp; omega
  have hel : lvSet ck s lv i = lv.set i (topL s.st) := by unfold lvSet atT; rw [if_neg (by rw [htl]; simp), if_neg q22]
  have hec : clSet ck s cls i = cls.set i (sdT s.st ck) := by unfold clSet atT; rw [if_neg (by rw [htl]; simp), if_neg q22]
  rw [step_other fs s hno, hel, hec]
  have p15 : (ck == 15) = false := by simpa using q15
  have p14 : (ck == 14) = false := by simpa using q14
  have p18 : (ck == 18) = false := by simpa using q18
  have p17 : (ck == 17) = false := by simpa using q17
  have p16 : (ck == 16) = false := by simpa using q16
  have p10 : (ck == 10) = false := by simpa using q10
  have p20 : (ck == 20) = false := by simpa using q20
  have p19 : (ck == 19) = false := by simpa using q19
  have p21 : (ck == 21) = false := by simpa using q21
  have p22 : (ck == 22) = false := by simpa using q22
  clear q10 q14 q15 q16 q17 q18 q19 q20 q21 q22 hno htl hel hec
  go_enter Try.func34, Try.ntmps34
  go_wp2_with (first | (go_at_call 40; refine (specBidi _ _).mono ?_; rintro e w1 ⟨rfl, b1⟩; rw [HCK.out]) | (go_at_call 53; refine (HH.out _ _ _ _ HG.out (b1.mono hB) (H.out.below b1)).mono ?_; rintro e w2 ⟨rfl, h2, b2⟩))
  go_end0
  exact ⟨rfl, ⟨_, h2⟩, b2⟩
end Go.Proofs.Ytkdmfjnaajedhaa
namespace Go.Proofs.Ytkdmfjnaajedhaa
set_option linter.unusedSimpArgs false
set_option linter.unusedVariables false

/-- What the levels are told to be, up to a letter. -/
def toldTo (c fs : Nat → Int) (base : Int) (n i : Nat) (lv cls : List Int) : Prop :=
  lv.length = n ∧ cls.length = n ∧ (∀ j, j < i → fn lv j = lvAt c fs base j ∧ fn cls j = clAt c fs base j) ∧ ∀ j, i ≤ j → j < n → fn cls j = 0
theorem told_zero (c fs : Nat → Int) (base : Int) (n : Nat) : toldTo c fs base n 0 (List.replicate n 0) (List.replicate n 0) :=
  ⟨by simp, by simp, fun j hj => by omega, fun j _ hj => by simp [fn, hj]⟩
theorem told_step {c fs : Nat → Int} {base : Int} {n i : Nat} {lv cls : List Int} (h : toldTo c fs base n i lv cls) (hi : i < n) :
    toldTo c fs base n (i + 1) (lvSet (c i) (told c fs base i) (lv.set i (-1)) i) (clSet (c i) (told c fs base i) cls i) := by
  obtain ⟨h1, h2, h3, h4⟩ := h
  unfold lvSet clSet
  by_cases ht : tellsB (c i) = true
  · rw [if_pos ht, if_pos ht]
    refine ⟨by simp [h1], h2, fun j hj => ?_, fun j a b => h4 j (by omega) b⟩
    by_cases e : j = i
    · subst e
      rw [fn_set_same (by omega), h4 j (Nat.le_refl _) hi]
      unfold lvAt lvT clAt clT
      rw [if_pos ht, if_pos ht]; exact ⟨rfl, rfl⟩
    · rw [fn_set_other (by omega)]; exact h3 j (by omega)
  · rw [if_neg ht, if_neg ht]
    refine ⟨by simp [h1], by simp [h2], fun j hj => ?_, fun j a b => by rw [fn_set_other (by omega)]; exact h4 j (by omega) b⟩
    by_cases e : j = i
    · subst e
      rw [fn_set_same (by simp; omega), fn_set_same (by omega)]
      unfold lvAt lvT clAt clT
      rw [if_neg ht, if_neg ht]; exact ⟨rfl, rfl⟩
    · rw [fn_set_other (by omega), fn_set_other (by omega), fn_set_other (by omega)]; exact h3 j (by omega)
/-- The side by which FSI is read. -/
def fsF (c : Nat → Int) (mt : Nat → Nat) (i : Nat) : Int := sideFrom c mt (mt i) (i + 1)

def baseB (b : Int) : Bool := decide (0 ≤ b ∧ b ≤ 1)
def okT (l : List Int) (base : Int) : Bool := okF (fn l) l.length && baseB base
theorem okT_out {l : List Int} {base : Int} (h : okT l base = true) : okF (fn l) l.length = true ∧ (0 ≤ base ∧ base ≤ 1) ∧ l.length ≤ 80 := by
  simp only [okT, Bool.and_eq_true, baseB, decide_eq_true_eq] at h
  exact ⟨h.1, h.2, okF_len h.1⟩
/-- The levels as they are told, and the classes. -/
def lvL (c fs : Nat → Int) (base : Int) (n : Nat) : List Int := (List.range n).map (lvAt c fs base)
def clL (c fs : Nat → Int) (base : Int) (n : Nat) : List Int := (List.range n).map (clAt c fs base)
theorem lvL_len (c fs : Nat → Int) (base : Int) (n : Nat) : (lvL c fs base n).length = n := by simp [lvL]
theorem clL_len (c fs : Nat → Int) (base : Int) (n : Nat) : (clL c fs base n).length = n := by simp [clL]
theorem fn_lvL {c fs : Nat → Int} {base : Int} {n j : Nat} (h : j < n) : fn (lvL c fs base n) j = lvAt c fs base j := by simp [fn, lvL, h]
theorem fn_clL {c fs : Nat → Int} {base : Int} {n j : Nat} (h : j < n) : fn (clL c fs base n) j = clAt c fs base j := by simp [fn, clL, h]
theorem told_end {c fs : Nat → Int} {base : Int} {n : Nat} {lv cls : List Int} (h : toldTo c fs base n n lv cls) : lv = lvL c fs base n ∧ cls = clL c fs base n :=
  ⟨ext_fn (by rw [lvL_len]; exact h.1) (fun j hj => by have := h.1; rw [(h.2.2.1 j (by omega)).1, fn_lvL (by omega)]), ext_fn (by rw [clL_len]; exact h.2.1) (fun j hj => by have := h.2.1; rw [(h.2.2.1 j (by omega)).2, fn_clL (by omega)])⟩
def toldL (l : List Int) (mt : Nat → Nat) (base : Int) : List Int := if okT l base = true then lvL (cl l) (fsF (cl l) mt) base l.length else []
def toldC (l : List Int) (mt : Nat → Nat) (base : Int) : List Int := if okT l base = true then clL (cl l) (fsF (cl l) mt) base l.length else []

theorem toldL_le (l : List Int) (mt : Nat → Nat) (base : Int) : (toldL l mt base).length ≤ l.length := by unfold toldL; split <;> simp [lvL_len]
theorem toldC_le (l : List Int) (mt : Nat → Nat) (base : Int) : (toldC l mt base).length ≤ l.length := by unfold toldC; split <;> simp [clL_len]
end Go.Proofs.Ytkdmfjnaajedhaa
