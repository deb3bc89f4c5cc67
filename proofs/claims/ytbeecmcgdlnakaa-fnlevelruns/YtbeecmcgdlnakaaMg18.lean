import Derived.Test.YtbeecmcgdlnakaaMg17
import Derived.Test.YtbeecmcgdlnakaaMg8
import Derived.Deep.RegionHeld3
import Derived.RegionTactic
import Derived.BigRegion
import Derived.Test.YtbeecmcgdlnakaaMg15
import Derived.Test.YtbeecmcgdlnakaaMg7
namespace Go.Proofs.Ytbeecmcgdlnakaa
open Go.ChangeShapes Go.WideShapes Go.ChangeAt Go.RowKit
set_option linter.unusedSimpArgs false
set_option linter.unusedVariables false


/-- Letters, their mates: what does not turn. -/
structure LIn (w : World) (n gm om cm gq oq cq : Nat) (cs M : List Int) : Prop where
  lm : gm < w.heap.size
  lq : gq < w.heap.size
  am : At w gm om cs
  aq : At w gq oq M
/-- What toldText and levelStack hold in memory. -/
structure TIn (w : World) (B T S gm gq gl gc n : Nat) (base : Int) (cs M lv cls : List Int) (top : Option Addr) (s : TS) : Prop where
  ge : B ≤ T
  lt : T < w.heap.size
  c0 : w.cell? ⟨T, 0, none⟩ = some (.int .i64 base)
  c1 : w.cell? ⟨T, 1, none⟩ = some (.slice (some ⟨gm, 0, none⟩) n n)
  c2 : w.cell? ⟨T, 2, none⟩ = some (.slice (some ⟨gq, 0, none⟩) n n)
  c3 : w.cell? ⟨T, 3, none⟩ = some (.slice (some ⟨gl, 0, none⟩) n n)
  c4 : w.cell? ⟨T, 4, none⟩ = some (.slice (some ⟨gc, 0, none⟩) n n)
  om : OwnI w B (.slice (some ⟨gm, 0, none⟩) n n) cs
  oq : OwnI w B (.slice (some ⟨gq, 0, none⟩) n n) M
  nm : gm ≠ T ∧ gm ≠ S ∧ gm ≠ gl ∧ gm ≠ gc
  nq : gq ≠ T ∧ gq ≠ S ∧ gq ≠ gl ∧ gq ≠ gc
  ol : OwnI w B (.slice (some ⟨gl, 0, none⟩) n n) lv
  oc : OwnI w B (.slice (some ⟨gc, 0, none⟩) n n) cls
  nlc : gl ≠ gc
  nTl : gl ≠ T
  nTc : gc ≠ T
  nTS : S ≠ T
  nSl : gl ≠ S
  nSc : gc ≠ S
  geS : B ≤ S
  st : SIn w (fun b => b = S ∨ b = T ∨ b = gl ∨ b = gc) S top s
section
variable {w w' : World} {B T S gl gc n : Nat} {base : Int} {gm gq : Nat} {cs M lv cls : List Int} {top : Option Addr} {s : TS}
theorem TIn.gllt (h : TIn w B T S gm gq gl gc n base cs M lv cls top s) : B ≤ gl ∧ gl < w.heap.size := h.ol.lt gl rfl
theorem TIn.gmlt (h : TIn w B T S gm gq gl gc n base cs M lv cls top s) : B ≤ gm ∧ gm < w.heap.size := h.om.lt gm rfl
theorem TIn.gqlt (h : TIn w B T S gm gq gl gc n base cs M lv cls top s) : B ≤ gq ∧ gq < w.heap.size := h.oq.lt gq rfl
theorem TIn.gclt (h : TIn w B T S gm gq gl gc n base cs M lv cls top s) : B ≤ gc ∧ gc < w.heap.size := h.oc.lt gc rfl
/-- The stack alone has turned. -/
theorem TIn.stack {top' : Option Addr} {s' : TS} (h : TIn w B T S gm gq gl gc n base cs M lv cls top s) (hg : w.grownBy w' (some S)) (hs : SIn w' (fun b => b = S ∨ b = T ∨ b = gl ∨ b = gc) S top' s') : TIn w' B T S gm gq gl gc n base cs M lv cls top' s' := by
  have hT := hg.block T h.lt (by simp; exact fun e => h.nTS e.symm)
  have e : ∀ j, w'.cell? ⟨T, j, none⟩ = w.cell? ⟨T, j, none⟩ := fun j => World.cell?_of_block hT
  exact ⟨h.ge, Nat.lt_of_lt_of_le h.lt hg.size, (e 0).trans h.c0, (e 1).trans h.c1, (e 2).trans h.c2, (e 3).trans h.c3, (e 4).trans h.c4,
    h.om.kept (fun k hk => by simp [Value.ownBlock] at hk; subst hk; exact hg.block _ h.gmlt.2 (by simp; exact h.nm.2.1)), h.oq.kept (fun k hk => by simp [Value.ownBlock] at hk; subst hk; exact hg.block _ h.gqlt.2 (by simp; exact h.nq.2.1)), h.nm, h.nq,
    h.ol.kept (fun k hk => by simp [Value.ownBlock] at hk; subst hk; exact hg.block _ h.gllt.2 (by simp; exact h.nSl)), h.oc.kept (fun k hk => by simp [Value.ownBlock] at hk; subst hk; exact hg.block _ h.gclt.2 (by simp; exact h.nSc)), h.nlc, h.nTl, h.nTc, h.nTS, h.nSl, h.nSc, h.geS, hs⟩
theorem TIn.below (h : TIn w B T S gm gq gl gc n base cs M lv cls top s) (hb : Below w.heap.size w w') : TIn w' B T S gm gq gl gc n base cs M lv cls top s := by
  have e : ∀ j, w'.cell? ⟨T, j, none⟩ = w.cell? ⟨T, j, none⟩ := fun j => World.cell?_of_block (hb.block T h.lt)
  exact ⟨h.ge, Nat.lt_of_lt_of_le h.lt hb.size, (e 0).trans h.c0, (e 1).trans h.c1, (e 2).trans h.c2, (e 3).trans h.c3, (e 4).trans h.c4, h.om.below hb, h.oq.below hb, h.nm, h.nq, h.ol.below hb, h.oc.below hb, h.nlc, h.nTl, h.nTc, h.nTS, h.nSl, h.nSc, h.geS, h.st.below hb⟩
theorem TIn.setL (h : TIn w B T S gm gq gl gc n base cs M lv cls top s) (i : Nat) (x : Int) : TIn (w.setCell ⟨gl, i, none⟩ (.int .i64 x)) B T S gm gq gl gc n base cs M (lv.set i x) cls top s := by
  have hblk : ∀ c, c ≠ gl → (w.setCell ⟨gl, i, none⟩ (.int .i64 x)).heap[c]? = w.heap[c]? := fun c hc => heap_setCell_other w ⟨gl, i, none⟩ c _ hc
  have e : ∀ j, (w.setCell ⟨gl, i, none⟩ (.int .i64 x)).cell? ⟨T, j, none⟩ = w.cell? ⟨T, j, none⟩ := fun j => World.cell?_of_block (hblk T (fun e => h.nTl e.symm))
  exact ⟨h.ge, by rw [World.size_setCell]; exact h.lt, (e 0).trans h.c0, (e 1).trans h.c1, (e 2).trans h.c2, (e 3).trans h.c3, (e 4).trans h.c4, h.om.kept (fun k hk => by simp [Value.ownBlock] at hk; subst hk; exact hblk _ h.nm.2.2.1), h.oq.kept (fun k hk => by simp [Value.ownBlock] at hk; subst hk; exact hblk _ h.nq.2.2.1), h.nm, h.nq, h.ol.storedN i x, h.oc.kept (fun k hk => by simp [Value.ownBlock] at hk; subst hk; exact hblk _ (fun e => h.nlc e.symm)), h.nlc, h.nTl, h.nTc, h.nTS, h.nSl, h.nSc, h.geS,
    h.st.kept (by rw [World.size_setCell]; exact Nat.le_refl _) (fun b hb _ => hblk b (fun e => by rcases hb with hb | hb; exact hb (.inr (.inr (.inl e))); exact h.nSl (e.symm.trans hb)))⟩
theorem TIn.setC (h : TIn w B T S gm gq gl gc n base cs M lv cls top s) (i : Nat) (x : Int) : TIn (w.setCell ⟨gc, i, none⟩ (.int .i64 x)) B T S gm gq gl gc n base cs M lv (cls.set i x) top s := by
  have hblk : ∀ c, c ≠ gc → (w.setCell ⟨gc, i, none⟩ (.int .i64 x)).heap[c]? = w.heap[c]? := fun c hc => heap_setCell_other w ⟨gc, i, none⟩ c _ hc
  have e : ∀ j, (w.setCell ⟨gc, i, none⟩ (.int .i64 x)).cell? ⟨T, j, none⟩ = w.cell? ⟨T, j, none⟩ := fun j => World.cell?_of_block (hblk T (fun e => h.nTc e.symm))
  exact ⟨h.ge, by rw [World.size_setCell]; exact h.lt, (e 0).trans h.c0, (e 1).trans h.c1, (e 2).trans h.c2, (e 3).trans h.c3, (e 4).trans h.c4, h.om.kept (fun k hk => by simp [Value.ownBlock] at hk; subst hk; exact hblk _ h.nm.2.2.2), h.oq.kept (fun k hk => by simp [Value.ownBlock] at hk; subst hk; exact hblk _ h.nq.2.2.2), h.nm, h.nq, h.ol.kept (fun k hk => by simp [Value.ownBlock] at hk; subst hk; exact hblk _ h.nlc), h.oc.storedN i x, h.nlc, h.nTl, h.nTc, h.nTS, h.nSl, h.nSc, h.geS,
    h.st.kept (by rw [World.size_setCell]; exact Nat.le_refl _) (fun b hb _ => hblk b (fun e => by rcases hb with hb | hb; exact hb (.inr (.inr (.inr e))); exact h.nSc (e.symm.trans hb)))⟩
theorem TIn.blwL (h : TIn w B T S gm gq gl gc n base cs M lv cls top s) {w0 : World} (hb : Below B w0 w) (j : Nat) (x : Value) : Below B w0 (w.setCell ⟨gl, j, none⟩ x) := hb.setCell h.gllt.1 _
theorem TIn.blwC (h : TIn w B T S gm gq gl gc n base cs M lv cls top s) {w0 : World} (hb : Below B w0 w) (j : Nat) (x : Value) : Below B w0 (w.setCell ⟨gc, j, none⟩ x) := hb.setCell h.gclt.1 _
theorem TIn.blwS (h : TIn w B T S gm gq gl gc n base cs M lv cls top s) {w0 : World} (hb : Below B w0 w) (hB : B ≤ w.heap.size) (hg : w.grownBy w' (some S)) : Below B w0 w' := hb.grown hg hB (fun k hk => by simp at hk; rw [← hk]; exact h.geS)
theorem TIn.lin (h : TIn w B T S gm gq gl gc n base cs M lv cls top s) : LIn w n gm 0 n gq 0 n cs M :=
  ⟨h.gmlt.2, h.gqlt.2, fun j hj => by have := h.om.len; rw [Nat.zero_add]; exact h.om.cellN j (by omega), fun j hj => by have := h.oq.len; rw [Nat.zero_add]; exact h.oq.cellN j (by omega)⟩
end

theorem side_01 (c : Nat → Int) (mt : Nat → Nat) (tt i : Nat) : sideFrom c mt tt i = 0 ∨ sideFrom c mt tt i = 1 := by
  unfold sideFrom
  generalize tt - i = d
  induction d generalizing i with
  | zero => exact .inl rfl
  | succ d ih =>
    simp only [sideG]
    repeat' split
    all_goals first | exact .inl rfl | exact .inr rfl | exact ih _

set_option maxHeartbeats 2000000 in
theorem implOpened {B T S gl gc n gm gq : Nat} {base : Int} {cs M lv cls : List Int} {top : Option Addr} {s : TS} (c : Nat → Int) (mt : Nat → Nat) (i : Nat) (w : World) (hi : i < n) (hn80 : n ≤ 1000) (hcs : cs.length = n) (hM : M.length = n) (hop : opensB (c i) = true)
    (hc : Hid (∀ j, j < n → fn cs j = c j)) (hmt : Hid (MateFn c n mt)) (hsm : Hid (SameMates c n mt M)) (h : TIn w B T S gm gq gl gc n base cs M lv cls top s) :
    Calls Try.prog 74 #[.pointer (some ⟨T, 0, none⟩), .int .i64 i] w fun e w' => e = .returned (.int .i64 (dirOf (rightT (c i) (sideFrom c mt (mt i) (i + 1))))) ∧ ∃ m, w' = w.drewN m := by
  have hL := h.lin
  have c1 := h.c1
  have c2 := h.c2
  obtain ⟨ck, hck⟩ : ∃ ck, c i = ck := ⟨_, rfl⟩
  have k1 := hL.am i (by omega)
  rw [hc.out i hi, hck, Nat.zero_add] at k1
  have k2 := hL.aq i (by omega)
  rw [Nat.zero_add] at k2
  have hi0 : (0 : Int) ≤ (i : Int) := by omega
  have hi1 : (i : Int) < (n : Int) := by omega
  have hmi := mt_gt hmt.out hi hop
  have hs := hsm.out i hi hop
  obtain ⟨fs, hfs⟩ : ∃ fs, sideFrom c mt (mt i) (i + 1) = fs := ⟨_, rfl⟩
  rw [hck, hfs]
  have HF : Hid _ := hfs
  have HCS : Hid _ := hcs
  have HM : Hid _ := hM
  have hop2 : 19 ≤ ck ∧ ck ≤ 21 := by rw [hck] at hop; simpa [opensB] using hop
  have HL : Hid _ := hL
  clear h hck hfs hcs hM hop hL
  have hwi : IntKind.i64.wrap ((i : Int) + 1) = (i : Int) + 1 := by rw [IntKind.wrap_i64]; omega
  have hii : Hid ((i : Int) + 1 = ((i + 1 : Nat) : Int)) := by show _ = _; omega
  have hfsb : fs = 0 ∨ fs = 1 := by
    rw [← HF.out]; exact side_01 _ _ _ _
  by_cases q20 : ck = 20
  · subst q20
    rw [show rightT 20 fs = true from by simp [rightT]]
    go_enter Try.func74, Try.ntmps74
    go_wp2_with fail
    go_ret
    exact ⟨rfl, 0, rfl⟩
  by_cases q19 : ck = 19
  · subst q19
    rw [show rightT 19 fs = false from by simp [rightT]]
    go_enter Try.func74, Try.ntmps74
    go_wp2_with fail
    go_ret
    exact ⟨rfl, 0, rfl⟩
  have q21 : ck = 21 := by omega
  subst q21
  have hres : dirOf (rightT 21 fs) = ownOf fs := by
    rcases hfsb with e | e <;> subst e <;> simp [rightT, dirOf, ownOf]
  rw [hres]
  have hfs0 : 0 ≤ fs := by omega
  have hside : ∀ q (t : Int), t = (mt i : Int) → Calls Try.prog 95 #[.slice (some ⟨gm, 0, none⟩) n n, .slice (some ⟨gq, 0, none⟩) n n, .int .i64 ((i : Int) + 1), .int .i64 t] (w.drewN q) fun e w' => e = .returned (.int .i64 fs) ∧ w' = w.drewN q := fun q t ht => by
    rw [← HF.out]
    exact implSide gm 0 n n gq 0 n cs M c mt _ _ (i + 1) (mt i) _ HCS.out HM.out HL.out.am HL.out.aq (by omega) hc hmt hsm hii.out ht (by omega) hmi.2
  have HSD : Hid _ := hside
  clear hside hres hfsb
  rcases hs with ⟨m1, m2⟩ | ⟨m1, m2⟩
  · rw [m2] at k2
    have hm0 : decide ((mt i : Int) < 0) = false := by simp
    clear m2
    go_enter Try.func74, Try.ntmps74
    go_wp2_with fail
    go_quiet ((first | (go_at_call 95; exact Calls.quiet_of_same (HSD.out _ _ rfl)) | (go_at_call 94; exact Calls.quiet_of_same (implSideOf _ _ hfs0))))
    go_wp2_with fail
    go_ret
    exact ⟨rfl, _, rfl⟩
  · rw [m2] at k2
    have M1 : Hid _ := m1
    clear m2 m1
    go_enter Try.func74, Try.ntmps74
    go_wp2_with fail
    go_quiet ((first | (go_at_call 95; exact Calls.quiet_of_same (HSD.out _ _ (by rw [M1.out]))) | (go_at_call 94; exact Calls.quiet_of_same (implSideOf _ _ hfs0))))
    go_wp2_with fail
    go_ret
    exact ⟨rfl, _, rfl⟩
end Go.Proofs.Ytbeecmcgdlnakaa
namespace Go.Proofs.Ytbeecmcgdlnakaa
open Go.ChangeShapes Go.WideShapes Go.ChangeAt Go.RowKit
set_option linter.unusedSimpArgs false
set_option linter.unusedVariables false

theorem stepI_op {c : Int} (f : Int) (s : TS) (h : c = 19 ∨ c = 20 ∨ c = 21) : stepT c f s = pushT s (rightT c f) 0 true := stepOp f s (by unfold opensB; simp; omega)
theorem stepI_other {c : Int} (f : Int) (s : TS) (h : ¬ (14 ≤ c ∧ c ≤ 22)) : stepT c f s = s := by
  unfold stepT
  rw [if_neg (by unfold opensB; simp; omega), if_neg (by omega), if_neg (by omega), if_neg (by omega), if_neg (by omega), if_neg (by omega), if_neg (by omega)]
theorem cut_ne {base : Int} {k : Nat} {s : TS} (h : GoodS base k s) : hasA s.st = true → ∃ y q, cutA s.st = y :: q := by
  intro ha
  obtain ⟨r, hr⟩ := h.last
  obtain ⟨r', hr'⟩ := cutA_last hr ha
  cases r' with
  | nil => exact ⟨_, _, hr'⟩
  | cons y q => exact ⟨_, _, hr'⟩

set_option maxHeartbeats 16000000 in
theorem implLetter {B T S gl gc n gm gq : Nat} {base : Int} {cs M lv cls : List Int} {top : Option Addr} {s : TS} (c : Nat → Int) (mt : Nat → Nat) (i : Nat) (w : World) (hi : i < n) (hn80 : n ≤ 1000) (hcs : cs.length = n) (hM : M.length = n) (hb0 : 0 ≤ base) (hB : B ≤ w.heap.size)
    (hc : Hid (∀ j, j < n → fn cs j = c j)) (hmt : Hid (MateFn c n mt)) (hsm : Hid (SameMates c n mt M)) (hg : GoodS base i s) (h : TIn w B T S gm gq gl gc n base cs M lv cls top s) :
    Calls Try.prog 53 #[.pointer (some ⟨T, 0, none⟩), .pointer (some ⟨S, 0, none⟩), .int .i64 i] w fun e w' => e = .returned (.tuple #[]) ∧ (∃ top', TIn w' B T S gm gq gl gc n base cs M (lvSet (c i) s (lv.set i (-1)) i) (clSet (c i) s cls i) top' (stepT (c i) (sideFrom c mt (mt i) (i + 1)) s)) ∧ Below B w w' := by
  have c1 := h.c1
  have c3 := h.c3
  obtain ⟨ck, hck⟩ : ∃ ck, c i = ck := ⟨_, rfl⟩
  have k1 := h.lin.am i (by omega)
  rw [hc.out i hi, hck, Nat.zero_add] at k1
  have hi0 : (0 : Int) ≤ (i : Int) := by omega
  have hi1 : (i : Int) < (n : Int) := by omega
  obtain ⟨fs, hfs⟩ : ∃ fs, sideFrom c mt (mt i) (i + 1) = fs := ⟨_, rfl⟩
  rw [hck, hfs]
  have HF : Hid _ := hfs
  have HCK : Hid _ := hck
  have kl := h.ol.cellN i hi
  have fl := h.ol.frozenN i
  have hik : i ≤ 1000 := by omega
  have hl0 := hg.lost0
  have hlk := hg.lostk
  have hs0 := hg.skip0
  have hsk := hg.skipk
  have hl1 : s.lost ≤ 1000 := by omega
  have hs1 : s.skip ≤ 1000 := by omega
  have hgt := good_top hg
  have ht0 : 0 ≤ topL s.st := by omega
  have ht1 : topL s.st ≤ 100 := by omega
  have HG : Hid _ := hg
  have HNE : Hid _ := good_ne hg
  have HCUT : Hid _ := cut_ne hg
  -- levels[at] = -1
  have H1 : Hid (TIn (w.setCell ⟨gl, i, none⟩ (.int .i64 (-1))) B T S gm gq gl gc n base cs M (lv.set i (-1)) cls top s) := h.setL i (-1)
  have B1 : Hid (Below B w (w.setCell ⟨gl, i, none⟩ (.int .i64 (-1)))) := h.blwL (Below.refl _ _) i _
  have HBs : B ≤ (w.setCell ⟨gl, i, none⟩ (.int .i64 (-1))).heap.size := by rw [World.size_setCell]; exact hB
  have HN : Hid _ := hcs
  have HM : Hid _ := hM
  clear h hck hfs hcs hM hg hgt hlk hsk
  obtain ⟨w1, hw1⟩ : ∃ w1, w.setCell ⟨gl, i, none⟩ (.int .i64 (-1)) = w1 := ⟨_, rfl⟩
  have HW1 : Hid _ := hw1
  rw [hw1] at H1 B1 HBs
  clear hw1
  have hpush : ∀ (w2 : World) (lv2 cls2 : List Int) (right : Bool) (side : Int) (alone : Bool) (d l0 : Int), d = dirOf right → Below B w w2 → B ≤ w2.heap.size → TIn w2 B T S gm gq gl gc n base cs M lv2 cls2 top s →
      Calls Try.prog 71 #[.pointer (some ⟨S, 0, none⟩), .agg #[.int .i64 l0, .int .i64 side, .bool alone, .pointer none], .int .i64 d] w2 fun e w' => e = .returned (.tuple #[]) ∧ (∃ top', TIn w' B T S gm gq gl gc n base cs M lv2 cls2 top' (pushT s right side alone)) ∧ Below B w w' := by
    intro w2 lv2 cls2 right side alone d l0 hd b2 hb2 h2
    refine (implPush w2 h2.st HNE.out ht0 ht1 hl0 hl1 hs0 hs1 right side alone l0 d hd).mono ?_
    rintro e w3 ⟨rfl, ⟨top', h3⟩, g3⟩
    exact ⟨rfl, ⟨top', h2.stack g3 h3⟩, h2.blwS b2 hb2 g3⟩
  have HP : Hid _ := hpush
  clear hpush
  by_cases q10 : ck = 10
  · subst q10
    rw [show stepT 10 fs s = s from rfl, show lvSet 10 s (lv.set i (-1)) i = lv.set i (-1) from rfl, show clSet 10 s cls i = cls from rfl]
    go_enter Try.func53, Try.ntmps53
    go_wp2_with fail
    refine bodyPost_ret (results_none rfl _ _ _) rfl ?_
    rw [HW1.out]
    exact ⟨rfl, ⟨_, H1.out⟩, B1.out⟩
  by_cases q14 : ck = 14
  · subst q14
    rw [show stepT 14 fs s = pushT s false 0 false from rfl, show lvSet 14 s (lv.set i (-1)) i = lv.set i (-1) from rfl, show clSet 14 s cls i = cls from rfl]
    go_enter Try.func53, Try.ntmps53
    go_wp2_with fail
    rw [HW1.out]
    refine (HP.out _ _ _ false _ _ _ _ rfl B1.out HBs H1.out).mono ?_
    rintro e w2 ⟨rfl, h2, b2⟩
    go_wp2_with fail
    refine bodyPost_ret (results_none rfl _ _ _) rfl ?_
    exact ⟨rfl, h2, b2⟩
  by_cases q15 : ck = 15
  · subst q15
    rw [show stepT 15 fs s = pushT s true 0 false from rfl, show lvSet 15 s (lv.set i (-1)) i = lv.set i (-1) from rfl, show clSet 15 s cls i = cls from rfl]
    go_enter Try.func53, Try.ntmps53
    go_wp2_with fail
    rw [HW1.out]
    refine (HP.out _ _ _ true _ _ _ _ rfl B1.out HBs H1.out).mono ?_
    rintro e w2 ⟨rfl, h2, b2⟩
    go_wp2_with fail
    refine bodyPost_ret (results_none rfl _ _ _) rfl ?_
    exact ⟨rfl, h2, b2⟩
  by_cases q17 : ck = 17
  · subst q17
    rw [show stepT 17 fs s = pushT s false 1 false from rfl, show lvSet 17 s (lv.set i (-1)) i = lv.set i (-1) from rfl, show clSet 17 s cls i = cls from rfl]
    go_enter Try.func53, Try.ntmps53
    go_wp2_with fail
    rw [HW1.out]
    refine (HP.out _ _ _ false _ _ _ _ rfl B1.out HBs H1.out).mono ?_
    rintro e w2 ⟨rfl, h2, b2⟩
    go_wp2_with fail
    refine bodyPost_ret (results_none rfl _ _ _) rfl ?_
    exact ⟨rfl, h2, b2⟩
  by_cases q18 : ck = 18
  · subst q18
    rw [show stepT 18 fs s = pushT s true 2 false from rfl, show lvSet 18 s (lv.set i (-1)) i = lv.set i (-1) from rfl, show clSet 18 s cls i = cls from rfl]
    go_enter Try.func53, Try.ntmps53
    go_wp2_with fail
    rw [HW1.out]
    refine (HP.out _ _ _ true _ _ _ _ rfl B1.out HBs H1.out).mono ?_
    rintro e w2 ⟨rfl, h2, b2⟩
    go_wp2_with fail
    refine bodyPost_ret (results_none rfl _ _ _) rfl ?_
    exact ⟨rfl, h2, b2⟩
  by_cases q16 : ck = 16
  · subst q16
    rw [show stepT 16 fs s = dropT s from rfl, show lvSet 16 s (lv.set i (-1)) i = lv.set i (-1) from rfl, show clSet 16 s cls i = cls from rfl]
    go_enter Try.func53, Try.ntmps53
    go_wp2_with fail
    rw [HW1.out]
    refine (implEmb _ H1.out.st HNE.out hl0 hs0 hs1).mono ?_
    rintro e w2 ⟨rfl, ⟨top2, h2⟩, g2⟩
    go_wp2_with fail
    refine bodyPost_ret (results_none rfl _ _ _) rfl ?_
    exact ⟨rfl, ⟨top2, H1.out.stack g2 h2⟩, H1.out.blwS B1.out HBs g2⟩
  -- what stands on top, in a world and a state
  have htop : ∀ (w2 : World) (lv2 cls2 : List Int) (top2 : Option Addr) (s2 : TS), GoodS base i s2 → Below B w w2 → B ≤ w2.heap.size → TIn w2 B T S gm gq gl gc n base cs M lv2 cls2 top2 s2 →
      ∃ b, top2 = some ⟨b, 0, none⟩ ∧ (¬ gl = b ∧ ¬ gc = b) ∧ w2.cell? ⟨b, 0, none⟩ = some (.int .i64 (topL s2.st)) ∧ w2.cell? ⟨b, 1, none⟩ = some (.int .i64 (topS s2.st)) := by
    intro w2 lv2 cls2 top2 s2 g2 b2 hb2 h2
    obtain ⟨x, r, hx⟩ := good_ne g2
    have hlk := h2.st.lk
    rw [hx] at hlk ⊢
    obtain ⟨b, nx, e, hb1, _, n0, n1, _⟩ := hlk
    simp only [Value.pointer.injEq] at e
    exact ⟨b, e, ⟨fun e2 => hb1 (.inr (.inr (.inl e2.symm))), fun e2 => hb1 (.inr (.inr (.inr e2.symm)))⟩, n0, n1⟩
  have HTOP : Hid _ := htop
  clear htop
  by_cases q22 : ck = 22
  · subst q22
    rw [show stepT 22 fs s = endT s from rfl, show lvSet 22 s (lv.set i (-1)) i = (lv.set i (-1)).set i (topL (endT s).st) from rfl, show clSet 22 s cls i = cls.set i (sdT (endT s).st 22) from rfl, List.set_set]
    have HOB : Hid (opensB 22 = false) := by show _ = _; decide
    obtain ⟨s2, hs2⟩ : ∃ s2, endT s = s2 := ⟨_, rfl⟩
    have HG2 : Hid (GoodS base i s2) := by rw [← hs2]; exact good_end HG.out
    rw [hs2]
    have HS2 : Hid _ := hs2
    clear hs2
    go_enter Try.func53, Try.ntmps53
    go_wp2_with fail
    rw [HW1.out]
    refine (implAlone _ H1.out.st HCUT.out hl0 hl1).mono ?_
    rintro e w2 ⟨rfl, ⟨top2, h2⟩, g2⟩
    have H2 := H1.out.stack g2 h2
    have B2 := H1.out.blwS B1.out HBs g2
    rw [HS2.out] at H2
    have HH2 : Hid (TIn w2 B T S gm gq gl gc n base cs M (lv.set i (-1)) cls top2 s2) := H2
    have HB2 : Hid (Below B w w2) := B2
    have HBs2 : B ≤ w2.heap.size := Nat.le_trans hB B2.size
    clear H2 B2 h2 g2
    obtain ⟨b, rfl, ⟨nb1, nb2⟩, t0, t1⟩ := HTOP.out _ _ _ _ _ HG2.out HB2.out HBs2 HH2.out
    obtain ⟨tl, htl⟩ : ∃ tl, topL s2.st = tl := ⟨_, rfl⟩
    obtain ⟨ts, hts⟩ : ∃ ts, topS s2.st = ts := ⟨_, rfl⟩
    obtain ⟨sd, hsdd⟩ : ∃ sd, sdT s2.st 22 = sd := ⟨_, rfl⟩
    have hsd : sd = if ts ≠ 0 then ts else 22 := by rw [← hsdd]; unfold sdT; rw [hts]
    have HTL : Hid _ := htl
    have HSDD : Hid _ := hsdd
    rw [htl] at t0
    rw [hts] at t1
    have c3 := HH2.out.c3
    have c4 := HH2.out.c4
    have s0 := HH2.out.st.c0
    have kl := HH2.out.ol.cellN i hi
    have fl := HH2.out.ol.frozenN i
    have kc := HH2.out.oc.cellN i hi
    have fc := HH2.out.oc.frozenN i
    have n1 : ¬ gl = gc := HH2.out.nlc
    have n2 : ¬ gl = T := HH2.out.nTl
    have n3 : ¬ gc = T := HH2.out.nTc
    have n4 : ¬ gl = S := HH2.out.nSl
    have n5 : ¬ gc = S := HH2.out.nSc
    have FA : Hid (∀ q, TIn (((w2.setCell ⟨gl, i, none⟩ (.int .i64 tl)).setCell ⟨gc, i, none⟩ (.int .i64 22)).drewN q) B T S gm gq gl gc n base cs M (lv.set i tl) (cls.set i 22) (some ⟨b, 0, none⟩) s2 ∧ Below B w (((w2.setCell ⟨gl, i, none⟩ (.int .i64 tl)).setCell ⟨gc, i, none⟩ (.int .i64 22)).drewN q)) := by
      have a := (HH2.out.setL i tl).setC i 22
      rw [List.set_set] at a
      exact fun q => ⟨a.below (below_draws _ q), (((HH2.out.setL i tl).blwC (HH2.out.blwL HB2.out i _) i _).trans ((below_draws _ q).mono (by simp only [World.size_setCell]; first | exact HBs2 | exact HBs)))⟩
    have FB : Hid (∀ q, TIn ((((w2.setCell ⟨gl, i, none⟩ (.int .i64 tl)).setCell ⟨gc, i, none⟩ (.int .i64 22)).setCell ⟨gc, i, none⟩ (.int .i64 ts)).drewN q) B T S gm gq gl gc n base cs M (lv.set i tl) (cls.set i ts) (some ⟨b, 0, none⟩) s2 ∧ Below B w ((((w2.setCell ⟨gl, i, none⟩ (.int .i64 tl)).setCell ⟨gc, i, none⟩ (.int .i64 22)).setCell ⟨gc, i, none⟩ (.int .i64 ts)).drewN q)) := by
      have a := ((HH2.out.setL i tl).setC i 22).setC i ts
      rw [List.set_set, List.set_set] at a
      exact fun q => ⟨a.below (below_draws _ q), ((((HH2.out.setL i tl).setC i 22).blwC ((HH2.out.setL i tl).blwC (HH2.out.blwL HB2.out i _) i _) i _).trans ((below_draws _ q).mono (by simp only [World.size_setCell]; first | exact HBs2 | exact HBs)))⟩
    have HSD : Hid _ := hsd
    clear hsd htl hts hsdd
    by_cases hz : ts = 0
    · have hz1 : (ts != 0) = false := by simpa using hz
      have HE : Hid (sd = 22) := by show _ = _; rw [HSD.out]; exact if_neg (by rw [hz]; simp)
      clear hz
      go_wp2_with fail
      go_region_held3 (fun w' => w'.cell? ⟨T, 3, none⟩ = some (.slice (some ⟨gl, 0, none⟩) n n) ∧ w'.cell? ⟨T, 4, none⟩ = some (.slice (some ⟨gc, 0, none⟩) n n) ∧ w'.cell? ⟨S, 0, none⟩ = some (.pointer (some ⟨b, 0, none⟩)) ∧ w'.cell? ⟨b, 0, none⟩ = some (.int .i64 tl)) (go_keep) (fail)
      go_wp2_with fail
      refine (implOpens _ _).mono ?_
      rintro e w5 ⟨rfl, rfl⟩
      rw [HOB.out]
      go_wp2_with fail
      go_end0
      rw [HTL.out, HSDD.out, HE.out]
      exact ⟨rfl, ⟨_, (FA.out 1).1⟩, (FA.out 1).2⟩
    · have hz1 : (ts != 0) = true := by simpa using hz
      have HE : Hid (sd = ts) := by show _ = _; rw [HSD.out]; exact if_pos (by exact hz)
      clear hz
      go_wp2_with fail
      go_region_held3 (fun w' => w'.cell? ⟨T, 3, none⟩ = some (.slice (some ⟨gl, 0, none⟩) n n) ∧ w'.cell? ⟨T, 4, none⟩ = some (.slice (some ⟨gc, 0, none⟩) n n) ∧ w'.cell? ⟨S, 0, none⟩ = some (.pointer (some ⟨b, 0, none⟩)) ∧ w'.cell? ⟨b, 0, none⟩ = some (.int .i64 tl)) (go_keep) (fail)
      go_wp2_with fail
      go_region_held3 (fun w' => w'.cell? ⟨T, 4, none⟩ = some (.slice (some ⟨gc, 0, none⟩) n n) ∧ w'.cell? ⟨S, 0, none⟩ = some (.pointer (some ⟨b, 0, none⟩)) ∧ w'.cell? ⟨b, 1, none⟩ = some (.int .i64 ts)) (go_keep) (fail)
      go_wp2_with fail
      refine (implOpens _ _).mono ?_
      rintro e w5 ⟨rfl, rfl⟩
      rw [HOB.out]
      go_wp2_with fail
      go_end0
      rw [HTL.out, HSDD.out, HE.out]
      exact ⟨rfl, ⟨_, (FB.out 2).1⟩, (FB.out 2).2⟩
  by_cases qop : ck = 19 ∨ ck = 20 ∨ ck = 21
  · have hel : lvSet ck s (lv.set i (-1)) i = lv.set i (topL s.st) := by unfold lvSet atT; rw [if_neg (by unfold tellsB; simp; omega), if_neg q22, List.set_set]
    have hec : clSet ck s cls i = cls.set i (sdT s.st ck) := by unfold clSet atT; rw [if_neg (by unfold tellsB; simp; omega), if_neg q22]
    have HOB : Hid (opensB ck = true) := by show _ = _; unfold opensB; simp; omega
    rw [stepI_op fs s qop, hel, hec]
    have p14 : (ck == 14) = false := by simpa using q14
    have p15 : (ck == 15) = false := by simpa using q15
    have p16 : (ck == 16) = false := by simpa using q16
    have p17 : (ck == 17) = false := by simpa using q17
    have p18 : (ck == 18) = false := by simpa using q18
    have p10 : (ck == 10) = false := by simpa using q10
    have p22 : (ck == 22) = false := by simpa using q22
    clear q10 q14 q15 q16 q17 q18 q22 qop hel hec
    obtain ⟨b, rfl, ⟨nb1, nb2⟩, t0, t1⟩ := HTOP.out _ _ _ _ _ HG.out B1.out HBs H1.out
    obtain ⟨tl, htl⟩ : ∃ tl, topL s.st = tl := ⟨_, rfl⟩
    obtain ⟨ts, hts⟩ : ∃ ts, topS s.st = ts := ⟨_, rfl⟩
    obtain ⟨sd, hsdd⟩ : ∃ sd, sdT s.st ck = sd := ⟨_, rfl⟩
    have hsd : sd = if ts ≠ 0 then ts else ck := by rw [← hsdd]; unfold sdT; rw [hts]
    have HTL : Hid _ := htl
    have HSDD : Hid _ := hsdd
    rw [htl] at t0
    rw [hts] at t1
    have c3 := H1.out.c3
    have c4 := H1.out.c4
    have s0 := H1.out.st.c0
    have kl := H1.out.ol.cellN i hi
    have fl := H1.out.ol.frozenN i
    have kc := H1.out.oc.cellN i hi
    have fc := H1.out.oc.frozenN i
    have n1 : ¬ gl = gc := H1.out.nlc
    have n2 : ¬ gl = T := H1.out.nTl
    have n3 : ¬ gc = T := H1.out.nTc
    have n4 : ¬ gl = S := H1.out.nSl
    have n5 : ¬ gc = S := H1.out.nSc
    have FA : Hid (∀ q, TIn (((w1.setCell ⟨gl, i, none⟩ (.int .i64 tl)).setCell ⟨gc, i, none⟩ (.int .i64 ck)).drewN q) B T S gm gq gl gc n base cs M (lv.set i tl) (cls.set i ck) (some ⟨b, 0, none⟩) s ∧ Below B w (((w1.setCell ⟨gl, i, none⟩ (.int .i64 tl)).setCell ⟨gc, i, none⟩ (.int .i64 ck)).drewN q)) := by
      have a := (H1.out.setL i tl).setC i ck
      rw [List.set_set] at a
      exact fun q => ⟨a.below (below_draws _ q), (((H1.out.setL i tl).blwC (H1.out.blwL B1.out i _) i _).trans ((below_draws _ q).mono (by simp only [World.size_setCell]; first | exact HBs2 | exact HBs)))⟩
    have FB : Hid (∀ q, TIn ((((w1.setCell ⟨gl, i, none⟩ (.int .i64 tl)).setCell ⟨gc, i, none⟩ (.int .i64 ck)).setCell ⟨gc, i, none⟩ (.int .i64 ts)).drewN q) B T S gm gq gl gc n base cs M (lv.set i tl) (cls.set i ts) (some ⟨b, 0, none⟩) s ∧ Below B w ((((w1.setCell ⟨gl, i, none⟩ (.int .i64 tl)).setCell ⟨gc, i, none⟩ (.int .i64 ck)).setCell ⟨gc, i, none⟩ (.int .i64 ts)).drewN q)) := by
      have a := ((H1.out.setL i tl).setC i ck).setC i ts
      rw [List.set_set, List.set_set] at a
      exact fun q => ⟨a.below (below_draws _ q), ((((H1.out.setL i tl).setC i ck).blwC ((H1.out.setL i tl).blwC (H1.out.blwL B1.out i _) i _) i _).trans ((below_draws _ q).mono (by simp only [World.size_setCell]; first | exact HBs2 | exact HBs)))⟩
    have HSD : Hid _ := hsd
    clear hsd htl hts hsdd ht0 ht1
    by_cases hz : ts = 0
    · have hz1 : (ts != 0) = false := by simpa using hz
      have HE : Hid (sd = ck) := by show _ = _; rw [HSD.out]; exact if_neg (by rw [hz]; simp)
      clear hz
      go_enter Try.func53, Try.ntmps53
      go_wp2_with fail
      rw [HW1.out]
      go_region_held3 (fun w' => w'.cell? ⟨T, 3, none⟩ = some (.slice (some ⟨gl, 0, none⟩) n n) ∧ w'.cell? ⟨T, 4, none⟩ = some (.slice (some ⟨gc, 0, none⟩) n n) ∧ w'.cell? ⟨S, 0, none⟩ = some (.pointer (some ⟨b, 0, none⟩)) ∧ w'.cell? ⟨b, 0, none⟩ = some (.int .i64 tl)) (go_keep) (fail)
      go_wp2_with fail
      refine (implOpens _ _).mono ?_
      rintro e w5 ⟨rfl, rfl⟩
      rw [HOB.out]
      go_wp2_with fail
      refine (implOpened c mt i _ hi hn80 HN.out HM.out (by rw [HCK.out]; exact HOB.out) hc hmt hsm (FA.out 1).1).mono ?_
      rintro e w6 ⟨rfl, m6, rfl⟩
      rw [HCK.out, HF.out]
      go_wp2_with fail
      refine (HP.out _ _ _ _ _ _ _ _ rfl (FA.out _).2 (Nat.le_trans hB (FA.out _).2.size) (FA.out _).1).mono ?_
      rintro e w7 ⟨rfl, h7, b7⟩
      go_wp2_with fail
      go_end0
      rw [HTL.out, HSDD.out, HE.out]
      exact ⟨rfl, h7, b7⟩
    · have hz1 : (ts != 0) = true := by simpa using hz
      have HE : Hid (sd = ts) := by show _ = _; rw [HSD.out]; exact if_pos (by exact hz)
      clear hz
      go_enter Try.func53, Try.ntmps53
      go_wp2_with fail
      rw [HW1.out]
      go_region_held3 (fun w' => w'.cell? ⟨T, 3, none⟩ = some (.slice (some ⟨gl, 0, none⟩) n n) ∧ w'.cell? ⟨T, 4, none⟩ = some (.slice (some ⟨gc, 0, none⟩) n n) ∧ w'.cell? ⟨S, 0, none⟩ = some (.pointer (some ⟨b, 0, none⟩)) ∧ w'.cell? ⟨b, 0, none⟩ = some (.int .i64 tl)) (go_keep) (fail)
      go_wp2_with fail
      go_region_held3 (fun w' => w'.cell? ⟨T, 4, none⟩ = some (.slice (some ⟨gc, 0, none⟩) n n) ∧ w'.cell? ⟨S, 0, none⟩ = some (.pointer (some ⟨b, 0, none⟩)) ∧ w'.cell? ⟨b, 1, none⟩ = some (.int .i64 ts)) (go_keep) (fail)
      go_wp2_with fail
      refine (implOpens _ _).mono ?_
      rintro e w5 ⟨rfl, rfl⟩
      rw [HOB.out]
      go_wp2_with fail
      refine (implOpened c mt i _ hi hn80 HN.out HM.out (by rw [HCK.out]; exact HOB.out) hc hmt hsm (FB.out 2).1).mono ?_
      rintro e w6 ⟨rfl, m6, rfl⟩
      rw [HCK.out, HF.out]
      go_wp2_with fail
      refine (HP.out _ _ _ _ _ _ _ _ rfl (FB.out _).2 (Nat.le_trans hB (FB.out _).2.size) (FB.out _).1).mono ?_
      rintro e w7 ⟨rfl, h7, b7⟩
      go_wp2_with fail
      go_end0
      rw [HTL.out, HSDD.out, HE.out]
      exact ⟨rfl, h7, b7⟩
  have hno : ¬ (14 ≤ ck ∧ ck ≤ 22) := by omega
  have hel : lvSet ck s (lv.set i (-1)) i = lv.set i (topL s.st) := by unfold lvSet atT; rw [if_neg (by unfold tellsB; simp; omega), if_neg q22, List.set_set]
  have hec : clSet ck s cls i = cls.set i (sdT s.st ck) := by unfold clSet atT; rw [if_neg (by unfold tellsB; simp; omega), if_neg q22]
  have HOB : Hid (opensB ck = false) := by show _ = _; unfold opensB; simp; omega
  rw [stepI_other fs s hno, hel, hec]
  have p14 : (ck == 14) = false := by simpa using q14
  have p15 : (ck == 15) = false := by simpa using q15
  have p16 : (ck == 16) = false := by simpa using q16
  have p17 : (ck == 17) = false := by simpa using q17
  have p18 : (ck == 18) = false := by simpa using q18
  have p10 : (ck == 10) = false := by simpa using q10
  have p22 : (ck == 22) = false := by simpa using q22
  clear q10 q14 q15 q16 q17 q18 q22 qop hno hel hec
  obtain ⟨b, rfl, ⟨nb1, nb2⟩, t0, t1⟩ := HTOP.out _ _ _ _ _ HG.out B1.out HBs H1.out
  obtain ⟨tl, htl⟩ : ∃ tl, topL s.st = tl := ⟨_, rfl⟩
  obtain ⟨ts, hts⟩ : ∃ ts, topS s.st = ts := ⟨_, rfl⟩
  obtain ⟨sd, hsdd⟩ : ∃ sd, sdT s.st ck = sd := ⟨_, rfl⟩
  have hsd : sd = if ts ≠ 0 then ts else ck := by rw [← hsdd]; unfold sdT; rw [hts]
  have HTL : Hid _ := htl
  have HSDD : Hid _ := hsdd
  rw [htl] at t0
  rw [hts] at t1
  have c3 := H1.out.c3
  have c4 := H1.out.c4
  have s0 := H1.out.st.c0
  have kl := H1.out.ol.cellN i hi
  have fl := H1.out.ol.frozenN i
  have kc := H1.out.oc.cellN i hi
  have fc := H1.out.oc.frozenN i
  have n1 : ¬ gl = gc := H1.out.nlc
  have n2 : ¬ gl = T := H1.out.nTl
  have n3 : ¬ gc = T := H1.out.nTc
  have n4 : ¬ gl = S := H1.out.nSl
  have n5 : ¬ gc = S := H1.out.nSc
  have FA : Hid (∀ q, TIn (((w1.setCell ⟨gl, i, none⟩ (.int .i64 tl)).setCell ⟨gc, i, none⟩ (.int .i64 ck)).drewN q) B T S gm gq gl gc n base cs M (lv.set i tl) (cls.set i ck) (some ⟨b, 0, none⟩) s ∧ Below B w (((w1.setCell ⟨gl, i, none⟩ (.int .i64 tl)).setCell ⟨gc, i, none⟩ (.int .i64 ck)).drewN q)) := by
    have a := (H1.out.setL i tl).setC i ck
    rw [List.set_set] at a
    exact fun q => ⟨a.below (below_draws _ q), (((H1.out.setL i tl).blwC (H1.out.blwL B1.out i _) i _).trans ((below_draws _ q).mono (by simp only [World.size_setCell]; first | exact HBs2 | exact HBs)))⟩
  have FB : Hid (∀ q, TIn ((((w1.setCell ⟨gl, i, none⟩ (.int .i64 tl)).setCell ⟨gc, i, none⟩ (.int .i64 ck)).setCell ⟨gc, i, none⟩ (.int .i64 ts)).drewN q) B T S gm gq gl gc n base cs M (lv.set i tl) (cls.set i ts) (some ⟨b, 0, none⟩) s ∧ Below B w ((((w1.setCell ⟨gl, i, none⟩ (.int .i64 tl)).setCell ⟨gc, i, none⟩ (.int .i64 ck)).setCell ⟨gc, i, none⟩ (.int .i64 ts)).drewN q)) := by
    have a := ((H1.out.setL i tl).setC i ck).setC i ts
    rw [List.set_set, List.set_set] at a
    exact fun q => ⟨a.below (below_draws _ q), ((((H1.out.setL i tl).setC i ck).blwC ((H1.out.setL i tl).blwC (H1.out.blwL B1.out i _) i _) i _).trans ((below_draws _ q).mono (by simp only [World.size_setCell]; first | exact HBs2 | exact HBs)))⟩
  have HSD : Hid _ := hsd
  clear hsd htl hts hsdd ht0 ht1
  by_cases hz : ts = 0
  · have hz1 : (ts != 0) = false := by simpa using hz
    have HE : Hid (sd = ck) := by show _ = _; rw [HSD.out]; exact if_neg (by rw [hz]; simp)
    clear hz
    go_enter Try.func53, Try.ntmps53
    go_wp2_with fail
    rw [HW1.out]
    go_region_held3 (fun w' => w'.cell? ⟨T, 3, none⟩ = some (.slice (some ⟨gl, 0, none⟩) n n) ∧ w'.cell? ⟨T, 4, none⟩ = some (.slice (some ⟨gc, 0, none⟩) n n) ∧ w'.cell? ⟨S, 0, none⟩ = some (.pointer (some ⟨b, 0, none⟩)) ∧ w'.cell? ⟨b, 0, none⟩ = some (.int .i64 tl)) (go_keep) (fail)
    go_wp2_with fail
    refine (implOpens _ _).mono ?_
    rintro e w5 ⟨rfl, rfl⟩
    rw [HOB.out]
    go_wp2_with fail
    go_end0
    rw [HTL.out, HSDD.out, HE.out]
    exact ⟨rfl, ⟨_, (FA.out 1).1⟩, (FA.out 1).2⟩
  · have hz1 : (ts != 0) = true := by simpa using hz
    have HE : Hid (sd = ts) := by show _ = _; rw [HSD.out]; exact if_pos (by exact hz)
    clear hz
    go_enter Try.func53, Try.ntmps53
    go_wp2_with fail
    rw [HW1.out]
    go_region_held3 (fun w' => w'.cell? ⟨T, 3, none⟩ = some (.slice (some ⟨gl, 0, none⟩) n n) ∧ w'.cell? ⟨T, 4, none⟩ = some (.slice (some ⟨gc, 0, none⟩) n n) ∧ w'.cell? ⟨S, 0, none⟩ = some (.pointer (some ⟨b, 0, none⟩)) ∧ w'.cell? ⟨b, 0, none⟩ = some (.int .i64 tl)) (go_keep) (fail)
    go_wp2_with fail
    go_region_held3 (fun w' => w'.cell? ⟨T, 4, none⟩ = some (.slice (some ⟨gc, 0, none⟩) n n) ∧ w'.cell? ⟨S, 0, none⟩ = some (.pointer (some ⟨b, 0, none⟩)) ∧ w'.cell? ⟨b, 1, none⟩ = some (.int .i64 ts)) (go_keep) (fail)
    go_wp2_with fail
    refine (implOpens _ _).mono ?_
    rintro e w5 ⟨rfl, rfl⟩
    rw [HOB.out]
    go_wp2_with fail
    go_end0
    rw [HTL.out, HSDD.out, HE.out]
    exact ⟨rfl, ⟨_, (FB.out 2).1⟩, (FB.out 2).2⟩
end Go.Proofs.Ytbeecmcgdlnakaa
namespace Go.Proofs.Ytbeecmcgdlnakaa
open Go.ChangeShapes Go.WideShapes Go.ChangeAt Go.RowKit Go.Deep
set_option linter.unusedSimpArgs false
set_option linter.unusedVariables false

set_option maxHeartbeats 4000000 in
theorem tellLevels_no (v : Value) (l : List Int) (base : Int) (w : World) (hv : Arg w v l) (hl : l.length ≤ 4194304) (hno : (okF (fn l) l.length && baseB base) = false) :
    Calls Try.prog 33 #[v, .int .i64 base] w fun e w' => e = .returned (.pointer none) ∧ w' = w := by
  obtain ⟨q, hq⟩ : ∃ q, okF (fn l) l.length = q := ⟨_, rfl⟩
  rw [hq] at hno
  have HQ : Hid _ := hq
  clear hq
  cases q
  · clear hno
    go_enter Try.func33, Try.ntmps33
    go_wp2_with (go_at_call 43; refine (implOk v l _ hv hl).mono ?_; rintro e w1 ⟨rfl, rfl⟩; rw [HQ.out])
    go_ret
    exact ⟨rfl, rfl⟩
  · have h2 : ¬ (0 ≤ base ∧ base ≤ 1) := by simpa [baseB] using hno
    have h3 : (base != 0) = true := by simp; omega
    have h4 : (base != 1) = true := by simp; omega
    clear hno h2
    go_enter Try.func33, Try.ntmps33
    go_wp2_with (go_at_call 43; refine (implOk v l _ hv hl).mono ?_; rintro e w1 ⟨rfl, rfl⟩; rw [HQ.out])
    go_ret
    exact ⟨rfl, rfl⟩

/-- What is told of letters, with their levels. -/
structure TT (w : World) (B T gm gq gl gc n : Nat) (base : Int) (cs M lv cls : List Int) : Prop where
  ge : B ≤ T
  lt : T < w.heap.size
  c0 : w.cell? ⟨T, 0, none⟩ = some (.int .i64 base)
  c1 : w.cell? ⟨T, 1, none⟩ = some (.slice (some ⟨gm, 0, none⟩) n n)
  c2 : w.cell? ⟨T, 2, none⟩ = some (.slice (some ⟨gq, 0, none⟩) n n)
  c3 : w.cell? ⟨T, 3, none⟩ = some (.slice (some ⟨gl, 0, none⟩) n n)
  c4 : w.cell? ⟨T, 4, none⟩ = some (.slice (some ⟨gc, 0, none⟩) n n)
  om : OwnI w B (.slice (some ⟨gm, 0, none⟩) n n) cs
  oq : OwnI w B (.slice (some ⟨gq, 0, none⟩) n n) M
  ol : OwnI w B (.slice (some ⟨gl, 0, none⟩) n n) lv
  oc : OwnI w B (.slice (some ⟨gc, 0, none⟩) n n) cls
  nlc : gl ≠ gc
theorem TT.below {w w' : World} {B T gm gq gl gc n : Nat} {base : Int} {cs M lv cls : List Int} (h : TT w B T gm gq gl gc n base cs M lv cls) (hb : Below w.heap.size w w') : TT w' B T gm gq gl gc n base cs M lv cls := by
  have e : ∀ j, w'.cell? ⟨T, j, none⟩ = w.cell? ⟨T, j, none⟩ := fun j => World.cell?_of_block (hb.block T h.lt)
  exact ⟨h.ge, Nat.lt_of_lt_of_le h.lt hb.size, (e 0).trans h.c0, (e 1).trans h.c1, (e 2).trans h.c2, (e 3).trans h.c3, (e 4).trans h.c4, h.om.below hb, h.oq.below hb, h.ol.below hb, h.oc.below hb, h.nlc⟩
theorem TIn.tt {w : World} {B T S gl gc n gm gq : Nat} {base : Int} {cs M lv cls : List Int} {top : Option Addr} {s : TS} (h : TIn w B T S gm gq gl gc n base cs M lv cls top s) : TT w B T gm gq gl gc n base cs M lv cls :=
  ⟨h.ge, h.lt, h.c0, h.c1, h.c2, h.c3, h.c4, h.om, h.oq, h.ol, h.oc, h.nlc⟩
/-- What the list of mates says. -/
structure MatesIs (c : Nat → Int) (n : Nat) (mt : Nat → Nat) (M : List Int) : Prop where
  same : SameMates c n mt M
  clos : ClosTo c n M

theorem tin_made {w : World} {B T gm gq n : Nat} {base : Int} {cs M : List Int} (h80 : n ≤ 80) (hB : B ≤ T) (hT : T < w.heap.size) (c0 : w.cell? ⟨T, 0, none⟩ = some (.int .i64 base)) (c1 : w.cell? ⟨T, 1, none⟩ = some (.slice (some ⟨gm, 0, none⟩) n n)) (c2 : ∃ u, w.cell? ⟨T, 2, none⟩ = some u) (c3 : ∃ u, w.cell? ⟨T, 3, none⟩ = some u) (c4 : ∃ u, w.cell? ⟨T, 4, none⟩ = some u)
    (om : OwnI w B (.slice (some ⟨gm, 0, none⟩) n n) cs) (oq : OwnI w B (.slice (some ⟨gq, 0, none⟩) n n) M) (n1 : gm ≠ T) (n2 : gq ≠ T) :
    TIn ((((((((w.setCell ⟨T, 2, none⟩ (.slice (some ⟨gq, 0, none⟩) n n)).setCell ⟨T, 3, none⟩ (.slice (some ⟨w.heap.size, 0, none⟩) n n)).setCell ⟨T, 4, none⟩ (.slice (some ⟨w.heap.size + 1, 0, none⟩) n n)).alloc (.cells (madeCells #[.int .i64 0] n) 3)).alloc (.cells (madeCells #[.int .i64 0] n) 3)).alloc (.cells #[.int .i64 base, .int .i64 0, .bool false, .pointer none] 68)).alloc (.cells #[.pointer (some ⟨w.heap.size + 1 + 1, 0, none⟩), .int .i64 0, .int .i64 0] 70)))
      B T (w.heap.size + 3) gm gq w.heap.size (w.heap.size + 1) n base cs M (List.replicate n 0) (List.replicate n 0) (some ⟨w.heap.size + 1 + 1, 0, none⟩) ⟨[⟨base, 0, false⟩], 0, 0⟩ := by
  obtain ⟨u2, c2⟩ := c2
  obtain ⟨u3, c3⟩ := c3
  obtain ⟨u4, c4⟩ := c4
  obtain ⟨W, hW⟩ : ∃ W, ((w.setCell ⟨T, 2, none⟩ (.slice (some ⟨gq, 0, none⟩) n n)).setCell ⟨T, 3, none⟩ (.slice (some ⟨w.heap.size, 0, none⟩) n n)).setCell ⟨T, 4, none⟩ (.slice (some ⟨w.heap.size + 1, 0, none⟩) n n) = W := ⟨_, rfl⟩
  have hs : W.heap.size = w.heap.size := by rw [← hW]; simp only [World.size_setCell]
  have d0 : W.cell? ⟨T, 0, none⟩ = some (.int .i64 base) := by rw [← hW]; exact setI_diff (by omega) (setI_diff (by omega) (setI_diff (by omega) c0))
  have d1 : W.cell? ⟨T, 1, none⟩ = some (.slice (some ⟨gm, 0, none⟩) n n) := by rw [← hW]; exact setI_diff (by omega) (setI_diff (by omega) (setI_diff (by omega) c1))
  have d2 : W.cell? ⟨T, 2, none⟩ = some (.slice (some ⟨gq, 0, none⟩) n n) := by rw [← hW]; exact setI_diff (by omega) (setI_diff (by omega) (setI_same c2))
  have d3 : W.cell? ⟨T, 3, none⟩ = some (.slice (some ⟨w.heap.size, 0, none⟩) n n) := by rw [← hW]; exact setI_diff (by omega) (setI_same (setI_diff (by omega) c3))
  have d4 : W.cell? ⟨T, 4, none⟩ = some (.slice (some ⟨w.heap.size + 1, 0, none⟩) n n) := by rw [← hW]; exact setI_same (setI_diff (by omega) (setI_diff (by omega) c4))
  have hkeep : ∀ g, g ≠ T → W.heap[g]? = w.heap[g]? := fun g hg => by
    rw [← hW]
    exact (heap_setCell_other _ ⟨T, 4, none⟩ g _ hg).trans ((heap_setCell_other _ ⟨T, 3, none⟩ g _ hg).trans (heap_setCell_other _ ⟨T, 2, none⟩ g _ hg))
  have om2 : OwnI W B (.slice (some ⟨gm, 0, none⟩) n n) cs := om.kept (fun k hk => by simp [Value.ownBlock] at hk; subst hk; exact hkeep _ n1)
  have oq2 : OwnI W B (.slice (some ⟨gq, 0, none⟩) n n) M := oq.kept (fun k hk => by simp [Value.ownBlock] at hk; subst hk; exact hkeep _ n2)
  rw [hW, ← hs]
  rw [← hs] at d3 d4 hT
  have hgm := (om2.lt gm rfl).2
  have hgq := (oq2.lt gq rfl).2
  obtain ⟨b0, b1, b2, b3⟩ := alloc4 W (.cells (madeCells #[.int .i64 0] n) 3) (.cells (madeCells #[.int .i64 0] n) 3) (.cells #[.int .i64 base, .int .i64 0, .bool false, .pointer none] 68) (.cells #[.pointer (some ⟨W.heap.size + 1 + 1, 0, none⟩), .int .i64 0, .int .i64 0] 70)
  have hbl : Below W.heap.size W ((((W.alloc (.cells (madeCells #[.int .i64 0] n) 3)).alloc (.cells (madeCells #[.int .i64 0] n) 3)).alloc (.cells #[.int .i64 base, .int .i64 0, .bool false, .pointer none] 68)).alloc (.cells #[.pointer (some ⟨W.heap.size + 1 + 1, 0, none⟩), .int .i64 0, .int .i64 0] 70)) :=
    ((((Below.refl _ W).alloc (Nat.le_refl _) _).alloc (by simp) _).alloc (by simp; omega) _).alloc (by simp; omega) _
  obtain ⟨V, hV⟩ : ∃ V, ((((W.alloc (.cells (madeCells #[.int .i64 0] n) 3)).alloc (.cells (madeCells #[.int .i64 0] n) 3)).alloc (.cells #[.int .i64 base, .int .i64 0, .bool false, .pointer none] 68)).alloc (.cells #[.pointer (some ⟨W.heap.size + 1 + 1, 0, none⟩), .int .i64 0, .int .i64 0] 70)) = V := ⟨_, rfl⟩
  have hVs : V.heap.size = W.heap.size + 4 := by rw [← hV]; simp
  rw [hV] at b0 b1 b2 b3 hbl ⊢
  have hcT : ∀ j, V.cell? ⟨T, j, none⟩ = W.cell? ⟨T, j, none⟩ := fun j => World.cell?_of_block (hbl.block T hT)
  have cS : ∀ j, V.cell? ⟨W.heap.size + 3, j, none⟩ = _ := fun j => cell_of_row V _ j _ _ (0, 0) b3
  have cN : ∀ j, V.cell? ⟨W.heap.size + 2, j, none⟩ = _ := fun j => cell_of_row V _ j _ _ (0, 0) b2
  have hBW : B ≤ W.heap.size := by omega
  have hm : n ≤ maxLen := by unfold maxLen; omega
  refine ⟨hB, by omega, (hcT 0).trans d0, (hcT 1).trans d1, (hcT 2).trans d2, (hcT 3).trans d3, (hcT 4).trans d4, om2.below hbl, oq2.below hbl, ⟨n1, by omega, by omega, by omega⟩, ⟨n2, by omega, by omega, by omega⟩, made_blk hBW b0 hm, made_blk (by omega) b1 hm, by omega, by omega, by omega, by omega, by omega, by omega, by omega,
    ⟨by omega, .inl rfl, fun b hb => ?_, by rw [cS]; rfl, by rw [cS]; rfl, by rw [cS]; rfl, fun j => frozen_of_row V _ j _ _ b3, ?_⟩⟩
  · rcases hb with rfl | rfl | rfl | rfl <;> omega
  · exact ⟨W.heap.size + 2, none, rfl, by omega, by omega, by rw [cN]; rfl, by rw [cN]; rfl, by rw [cN]; rfl, by rw [cN]; rfl, rfl⟩

set_option maxHeartbeats 8000000 in
theorem tellLevels_yes (v : Value) (l : List Int) (mt : Nat → Nat) (base : Int) (n : Nat) (w : World) (a : Option Addr) (cap : Nat) (hn : l.length = n) (hva : v = .slice a n cap) (hv : Arg w v l) (hok : Hid (okF (fn l) l.length = true)) (h80 : n ≤ 80) (hmt : Hid (MateFn (cl l) n mt)) (hb01 : 0 ≤ base ∧ base ≤ 1) :
    Calls Try.prog 33 #[v, .int .i64 base] w fun e w' => (∃ T gm gq gl gc M, e = .returned (.pointer (some ⟨T, 0, none⟩)) ∧ TT w' w.heap.size T gm gq gl gc n base (clsL l) M (lvL (cl l) (fsF (cl l) mt) base n) (clL (cl l) (fsF (cl l) mt) base n) ∧ MatesIs (cl l) n mt M) ∧ Below w.heap.size w w' := by
  subst hva
  have hmk := fun w => run_make_row' (P := Try.prog) 23 3 (.int .i64 0) 8 Try.underlying23 infoI rfl .i64 .i64 n (by omega) (by omega) w
  have HN : Hid _ := hn
  have hb3 : ((base != 0) = false) ∨ ((base != 0) = true ∧ (base != 1) = false) := by
    by_cases q : base = 0
    · exact .inl (by simpa using q)
    · exact .inr ⟨by simpa using q, by simp; omega⟩
  have hcl : (clsL l).length = n := by rw [clsL_len, hn]
  have HCL : Hid _ := hcl
  have hcc : Hid (∀ j, j < n → fn (clsL l) j = cl l j) := fun j hj => fn_clsL (by omega)
  have hlen : l.length ≤ 1048576 := by omega
  have hlen4 : l.length ≤ 4194304 := by omega
  have HV : Hid _ := hv
  clear hn hcl hv
  rcases hb3 with hb3 | ⟨hb3, hb4⟩
  all_goals
    go_enter Try.func33, Try.ntmps33
    go_wp2_with (first | (go_at_call 43; refine (implOk _ l _ HV.out hlen4).mono ?_; rintro e w1 ⟨rfl, rfl⟩; rw [hok.out]) | (go_at_call 51; refine (classes_any _ l _ HV.out hlen).mono ?_; rintro e w2 ⟨⟨gm, rfl, om⟩, b2⟩; rw [HN.out]; rw [HN.out] at om; have OM : Hid (OwnI w2 w1.heap.size (.slice (some ⟨gm, 0, none⟩) n n) (clsL l)) := om; clear om))
    have hgm := OM.out.lt gm rfl
    have t0 : (w2.alloc (.cells #[.int .i64 base, .slice (some ⟨gm, 0, none⟩) n n, .slice none 0 0, .slice none 0 0, .slice none 0 0] 48)).heap[w2.heap.size]? = some (.cells #[.int .i64 base, .slice (some ⟨gm, 0, none⟩) n n, .slice none 0 0, .slice none 0 0, .slice none 0 0] 48) := heap_alloc_new _ _
    have b3 : Below w1.heap.size w1 (w2.alloc (.cells #[.int .i64 base, .slice (some ⟨gm, 0, none⟩) n n, .slice none 0 0, .slice none 0 0, .slice none 0 0] 48)) := b2.alloc b2.size _
    have o3 : OwnI (w2.alloc (.cells #[.int .i64 base, .slice (some ⟨gm, 0, none⟩) n n, .slice none 0 0, .slice none 0 0, .slice none 0 0] 48)) w1.heap.size (.slice (some ⟨gm, 0, none⟩) n n) (clsL l) := OM.out.below ((Below.refl _ _).alloc (Nat.le_refl _) _)
    have hs3 : (w2.alloc (.cells #[.int .i64 base, .slice (some ⟨gm, 0, none⟩) n n, .slice none 0 0, .slice none 0 0, .slice none 0 0] 48)).heap.size = w2.heap.size + 1 := by simp
    obtain ⟨T, hT⟩ : ∃ T, w2.heap.size = T := ⟨_, rfl⟩
    rw [hT] at t0 hs3 hgm
    rw [hT]
    obtain ⟨w3, hw3⟩ : ∃ w3, (w2.alloc (.cells #[.int .i64 base, .slice (some ⟨gm, 0, none⟩) n n, .slice none 0 0, .slice none 0 0, .slice none 0 0] 48)) = w3 := ⟨_, rfl⟩
    rw [hw3] at t0 b3 o3 hs3
    rw [hw3]
    have hTw : w1.heap.size ≤ T := by rw [← hT]; exact b2.size
    have B3 : Hid _ := b3
    have O3 : Hid (OwnI w3 w1.heap.size (.slice (some ⟨gm, 0, none⟩) n n) (clsL l)) := o3
    have T0 : Hid (w3.heap[T]? = some (.cells #[.int .i64 base, .slice (some ⟨gm, 0, none⟩) n n, .slice none 0 0, .slice none 0 0, .slice none 0 0] 48)) := t0
    clear hw3 hT t0 b3 o3 b2 OM
    refine (mates_rowC gm 0 n n (clsL l) (cl l) _ HCL.out (by omega) (by omega) (fun j hj => by have := HCL.out; rw [Nat.zero_add]; exact O3.out.cellN j (by omega)) hcc).mono ?_
    rintro e w4 ⟨⟨gq, M, rfl, oq, hM, hCl⟩, b4⟩
    have hgq := oq.lt gq rfl
    have hsz4 := b4.size
    have OQ : Hid (OwnI w4 w1.heap.size (.slice (some ⟨gq, 0, none⟩) n n) M) := oq.mono (by omega)
    have O4 : Hid (OwnI w4 w1.heap.size (.slice (some ⟨gm, 0, none⟩) n n) (clsL l)) := O3.out.below b4
    have T4 : Hid (w4.heap[T]? = some (.cells #[.int .i64 base, .slice (some ⟨gm, 0, none⟩) n n, .slice none 0 0, .slice none 0 0, .slice none 0 0] 48)) := (b4.block T (by omega)).trans T0.out
    have B4 : Hid (Below w1.heap.size w1 w4) := bstep B3.out b4
    have q0 : w4.cell? ⟨T, 0, none⟩ = _ := cell_of_row w4 T 0 _ _ (0, 0) T4.out
    have q1 : w4.cell? ⟨T, 1, none⟩ = _ := cell_of_row w4 T 1 _ _ (0, 0) T4.out
    have q2 : w4.cell? ⟨T, 2, none⟩ = _ := cell_of_row w4 T 2 _ _ (0, 0) T4.out
    have q3 : w4.cell? ⟨T, 3, none⟩ = _ := cell_of_row w4 T 3 _ _ (0, 0) T4.out
    have q4 : w4.cell? ⟨T, 4, none⟩ = _ := cell_of_row w4 T 4 _ _ (0, 0) T4.out
    simp only [Array.getElem?_toList, List.getElem?_toArray, List.getElem?_cons_zero, List.getElem?_cons_succ] at q0 q1 q2 q3 q4
    have f2 := frozen_of_row w4 T 2 _ _ T4.out
    have f3 := frozen_of_row w4 T 3 _ _ T4.out
    have f4 := frozen_of_row w4 T 4 _ _ T4.out
    have hTl : T < w4.heap.size := by omega
    have fin := tin_made (base := base) h80 hTw hTl q0 q1 ⟨_, q2⟩ ⟨_, q3⟩ ⟨_, q4⟩ O4.out OQ.out (by omega) (by omega)
    obtain ⟨w5, hw5⟩ : ∃ w5, (((((((w4.setCell ⟨T, 2, none⟩ (.slice (some ⟨gq, 0, none⟩) n n)).setCell ⟨T, 3, none⟩ (.slice (some ⟨w4.heap.size, 0, none⟩) n n)).setCell ⟨T, 4, none⟩ (.slice (some ⟨w4.heap.size + 1, 0, none⟩) n n)).alloc (.cells (madeCells #[.int .i64 0] n) 3)).alloc (.cells (madeCells #[.int .i64 0] n) 3)).alloc (.cells #[.int .i64 base, .int .i64 0, .bool false, .pointer none] 68)).alloc (.cells #[.pointer (some ⟨w4.heap.size + 1 + 1, 0, none⟩), .int .i64 0, .int .i64 0] 70)) = w5 := ⟨_, rfl⟩
    have b5 : Below w1.heap.size w1 w5 := by
      rw [← hw5]
      exact ((((((B4.out.setCell (p := ⟨T, 2, none⟩) hTw _).setCell (p := ⟨T, 3, none⟩) hTw _).setCell (p := ⟨T, 4, none⟩) hTw _).alloc (by simp only [World.size_setCell]; omega) _).alloc (by simp; omega) _).alloc (by simp; omega) _).alloc (by simp; omega) _
    have B5 : Hid (Below w1.heap.size w1 w5) := b5
    obtain ⟨gl, hgl⟩ : ∃ gl, w4.heap.size = gl := ⟨_, rfl⟩
    rw [hw5] at fin
    have FIN : Hid (TIn w5 w1.heap.size T (gl + 3) gm gq gl (gl + 1) n base (clsL l) M (List.replicate n 0) (List.replicate n 0) (some ⟨gl + 1 + 1, 0, none⟩) ⟨[⟨base, 0, false⟩], 0, 0⟩) := by rw [← hgl]; exact fin
    have HW5 : Hid _ := hw5
    have HGL : Hid _ := hgl
    clear hw5 fin b5 hgl
    have hMI : Hid (MatesIs (cl l) n mt M) := ⟨same_mates hmt.out hM.out, hCl.out⟩
    clear hgm hgq oq b4
    go_wp2_with fail
    rw [HW5.out, HGL.out, show gl + 1 + 1 + 1 = gl + 3 from rfl]
    clear hmk f2 f3 f4 q0 q1 q2 q3 q4
    go_loopw [51] (fun q wr => ∃ (i : Nat) (top : Option Addr) (lv cls : List Int), i ≤ n ∧ q = .int .i64 i ∧ Hid (TIn wr w1.heap.size T (gl + 3) gm gq gl (gl + 1) n base (clsL l) M lv cls top (told (cl l) (fsF (cl l) mt) base i)) ∧ Hid (toldTo (cl l) (fsF (cl l) mt) base n i lv cls) ∧ Hid (Below w1.heap.size w1 wr)) (fun q _ => n - (intOf q).toNat)
    case atStart => exact ⟨0, _, _, _, Nat.zero_le _, rfl, FIN.out, told_zero _ _ _ _, B5.out⟩
    case round =>
      obtain ⟨i, top, lv, cls, hi, rfl, hT, hTo, hB⟩ := hrel
      by_cases hlt : i < n
      · have hi1 : (i : Int) < (n : Int) := by omega
        go_wp2_with fail
        refine (implLetter (cl l) mt i _ hlt (by omega) HCL.out hT.out.oq.len hb01.1 (Nat.le_trans hB.out.size (Nat.le_refl _)) hcc hmt hMI.out.same (good_told _ _ hb01 i) hT.out).mono ?_
        rintro e w6 ⟨rfl, ⟨top6, h6⟩, b6⟩
        have H6 : Hid (TIn w6 w1.heap.size T (gl + 3) gm gq gl (gl + 1) n base (clsL l) M (lvSet (cl l i) (told (cl l) (fsF (cl l) mt) base i) (lv.set i (-1)) i) (clSet (cl l i) (told (cl l) (fsF (cl l) mt) base i) cls i) top6 (told (cl l) (fsF (cl l) mt) base (i + 1))) := h6
        have B6 : Hid (Below w1.heap.size w1 w6) := hB.out.trans b6
        clear h6 b6
        go_wp2_with fail
        go_roundw
        case rel => exact ⟨i + 1, top6, _, _, by omega, by go_num, H6, told_step hTo.out hlt, B6⟩
        case measure => simp only [intOf]; omega
      · have e : i = n := by omega
        subst e
        go_wp2_with fail
        go_ret
        obtain ⟨e1, e2⟩ := told_end hTo.out
        have h7 := hT.out.tt
        rw [e1, e2] at h7
        exact ⟨⟨T, gm, gq, gl, gl + 1, M, rfl, h7, hMI.out⟩, hB.out⟩

set_option maxHeartbeats 2000000 in
theorem implTold (v : Value) (l : List Int) (mt : Nat → Nat) (base : Int) (w : World) (a : Option Addr) (cap : Nat) (hva : v = .slice a l.length cap) (hv : Arg w v l) (hl : l.length ≤ 1048576) (hmt : Hid (MateFn (cl l) l.length mt)) :
    Calls Try.prog 10 #[v, .int .i64 base] w fun e w' => (∃ v1 v2, e = .returned (.tuple #[v1, v2]) ∧ OwnI w' w.heap.size v1 (toldL l mt base) ∧ OwnI w' w.heap.size v2 (toldC l mt base) ∧ Apart v1 v2) ∧ Below w.heap.size w w' := by
  obtain ⟨q, hq⟩ : ∃ q, okT l base = q := ⟨_, rfl⟩
  unfold toldL toldC
  rw [hq]
  cases q
  · rw [if_neg (by simp), if_neg (by simp)]
    have HQ : Hid ((okF (fn l) l.length && baseB base) = false) := hq
    clear hq hva
    go_enter Try.func10, Try.ntmps10
    go_wp2_with (go_at_call 33; refine (tellLevels_no v l base _ hv (by omega) HQ.out).mono ?_; rintro e w1 ⟨rfl, rfl⟩)
    go_ret2
    exact ⟨⟨_, _, rfl, OwnI.nil _ _, OwnI.nil _ _, fun k h1 h2 => by simp [Value.ownBlock] at h1⟩, Below.refl _ _⟩
  · obtain ⟨hok, hb01, h80⟩ := okT_out hq
    rw [if_pos rfl, if_pos rfl]
    have HOK : Hid _ := hok
    clear hq hok
    subst hva
    go_enter Try.func10, Try.ntmps10
    go_wp2_with fail
    refine (tellLevels_yes _ l mt base l.length _ a cap rfl rfl hv HOK h80 hmt hb01).mono ?_
    rintro e w1 ⟨⟨T, gm, gq, gl, gc, M, rfl, h, _⟩, b1⟩
    have c3 := h.c3
    have c4 := h.c4
    go_wp2_with fail
    go_quiet (fail)
    go_wp2_with fail
    go_ret2
    refine ⟨⟨_, _, rfl, h.ol.drewN _, h.oc.drewN _, fun k h1 h2 => ?_⟩, bstep b1 (below_draws _ _)⟩
    simp [Value.ownBlock] at h1 h2
    exact h.nlc (by omega)
end Go.Proofs.Ytbeecmcgdlnakaa
