import Derived.Test.YtgojdlbidjnmmaaGreatToldI2
import Derived.Test.YtgojdlbidjnmmaaGreatSides2
import Derived.Deep.RegionHeld3
import Derived.RegionTactic
import Derived.BigRegion
namespace Go.Proofs.YtgojdlbidjnmmaaGreat
open Go.ChangeShapes Go.WideShapes Go.ChangeAt Go.RowKit
set_option linter.unusedSimpArgs false
set_option linter.unusedVariables false


/-- Letters, their mates: what does not turn. -/
structure LIn (w : World) (n gm om cm gq oq cq : Nat) (cs M : List Int) : Prop where
  lm : gm < w.heap.size
  lq : gq < w.heap.size
  am : At w gm om cs
  aq : At w gq oq M
/-- What toldText and levelStack hold in memory. -/
structure TIn (w : World) (B T S gm gq gl gc n : Nat) (base : Int) (cs M lv cls : List Int) (top : Option Addr) (s : TS) : Prop where
  ge : B ≤ T
  lt : T < w.heap.size
  c0 : w.cell? ⟨T, 0, none⟩ = some (.int .i64 base)
  c1 : w.cell? ⟨T, 1, none⟩ = some (.slice (some ⟨gm, 0, none⟩) n n)
  c2 : w.cell? ⟨T, 2, none⟩ = some (.slice (some ⟨gq, 0, none⟩) n n)
  c3 : w.cell? ⟨T, 3, none⟩ = some (.slice (some ⟨gl, 0, none⟩) n n)
  c4 : w.cell? ⟨T, 4, none⟩ = some (.slice (some ⟨gc, 0, none⟩) n n)
  om : OwnI w B (.slice (some ⟨gm, 0, none⟩) n n) cs
  oq : OwnI w B (.slice (some ⟨gq, 0, none⟩) n n) M
  nm : gm ≠ T ∧ gm ≠ S ∧ gm ≠ gl ∧ gm ≠ gc
  nq : gq ≠ T ∧ gq ≠ S ∧ gq ≠ gl ∧ gq ≠ gc
  ol : OwnI w B (.slice (some ⟨gl, 0, none⟩) n n) lv
  oc : OwnI w B (.slice (some ⟨gc, 0, none⟩) n n) cls
  nlc : gl ≠ gc
  nTl : gl ≠ T
  nTc : gc ≠ T
  nTS : S ≠ T
  nSl : gl ≠ S
  nSc : gc ≠ S
  geS : B ≤ S
  st : SIn w (fun b => b = S ∨ b = T ∨ b = gl ∨ b = gc) S top s
section
variable {w w' : World} {B T S gl gc n : Nat} {base : Int} {gm gq : Nat} {cs M lv cls : List Int} {top : Option Addr} {s : TS}
theorem TIn.gllt (h : TIn w B T S gm gq gl gc n base cs M lv cls top s) : B ≤ gl ∧ gl < w.heap.size := h.ol.lt gl rfl
theorem TIn.gmlt (h : TIn w B T S gm gq gl gc n base cs M lv cls top s) : B ≤ gm ∧ gm < w.heap.size := h.om.lt gm rfl
theorem TIn.gqlt (h : TIn w B T S gm gq gl gc n base cs M lv cls top s) : B ≤ gq ∧ gq < w.heap.size := h.oq.lt gq rfl
theorem TIn.gclt (h : TIn w B T S gm gq gl gc n base cs M lv cls top s) : B ≤ gc ∧ gc < w.heap.size := h.oc.lt gc rfl
/-- The stack alone has turned. -/
theorem TIn.stack {top' : Option Addr} {s' : TS} (h : TIn w B T S gm gq gl gc n base cs M lv cls top s) (hg : w.grownBy w' (some S)) (hs : SIn w' (fun b => b = S ∨ b = T ∨ b = gl ∨ b = gc) S top' s') : TIn w' B T S gm gq gl gc n base cs M lv cls top' s' := by
  have hT := hg.block T h.lt (by simp; exact fun e => h.nTS e.symm)
  have e : ∀ j, w'.cell? ⟨T, j, none⟩ = w.cell? ⟨T, j, none⟩ := fun j => World.cell?_of_block hT
  exact ⟨h.ge, Nat.lt_of_lt_of_le h.lt hg.size, (e 0).trans h.c0, (e 1).trans h.c1, (e 2).trans h.c2, (e 3).trans h.c3, (e 4).trans h.c4,
    h.om.kept (fun k hk => by simp [Value.ownBlock] at hk; subst hk; exact hg.block _ h.gmlt.2 (by simp; exact h.nm.2.1)), h.oq.kept (fun k hk => by simp [Value.ownBlock] at hk; subst hk; exact hg.block _ h.gqlt.2 (by simp; exact h.nq.2.1)), h.nm, h.nq,
    h.ol.kept (fun k hk => by simp [Value.ownBlock] at hk; subst hk; exact hg.block _ h.gllt.2 (by simp; exact h.nSl)), h.oc.kept (fun k hk => by simp [Value.ownBlock] at hk; subst hk; exact hg.block _ h.gclt.2 (by simp; exact h.nSc)), h.nlc, h.nTl, h.nTc, h.nTS, h.nSl, h.nSc, h.geS, hs⟩
theorem TIn.below (h : TIn w B T S gm gq gl gc n base cs M lv cls top s) (hb : Below w.heap.size w w') : TIn w' B T S gm gq gl gc n base cs M lv cls top s := by
  have e : ∀ j, w'.cell? ⟨T, j, none⟩ = w.cell? ⟨T, j, none⟩ := fun j => World.cell?_of_block (hb.block T h.lt)
  exact ⟨h.ge, Nat.lt_of_lt_of_le h.lt hb.size, (e 0).trans h.c0, (e 1).trans h.c1, (e 2).trans h.c2, (e 3).trans h.c3, (e 4).trans h.c4, h.om.below hb, h.oq.below hb, h.nm, h.nq, h.ol.below hb, h.oc.below hb, h.nlc, h.nTl, h.nTc, h.nTS, h.nSl, h.nSc, h.geS, h.st.below hb⟩
theorem TIn.setL (h : TIn w B T S gm gq gl gc n base cs M lv cls top s) (i : Nat) (x : Int) : TIn (w.setCell ⟨gl, i, none⟩ (.int .i64 x)) B T S gm gq gl gc n base cs M (lv.set i x) cls top s := by
  have hblk : ∀ c, c ≠ gl → (w.setCell ⟨gl, i, none⟩ (.int .i64 x)).heap[c]? = w.heap[c]? := fun c hc => heap_setCell_other w ⟨gl, i, none⟩ c _ hc
  have e : ∀ j, (w.setCell ⟨gl, i, none⟩ (.int .i64 x)).cell? ⟨T, j, none⟩ = w.cell? ⟨T, j, none⟩ := fun j => World.cell?_of_block (hblk T (fun e => h.nTl e.symm))
  exact ⟨h.ge, by rw [World.size_setCell]; exact h.lt, (e 0).trans h.c0, (e 1).trans h.c1, (e 2).trans h.c2, (e 3).trans h.c3, (e 4).trans h.c4, h.om.kept (fun k hk => by simp [Value.ownBlock] at hk; subst hk; exact hblk _ h.nm.2.2.1), h.oq.kept (fun k hk => by simp [Value.ownBlock] at hk; subst hk; exact hblk _ h.nq.2.2.1), h.nm, h.nq, h.ol.storedN i x, h.oc.kept (fun k hk => by simp [Value.ownBlock] at hk; subst hk; exact hblk _ (fun e => h.nlc e.symm)), h.nlc, h.nTl, h.nTc, h.nTS, h.nSl, h.nSc, h.geS,
    h.st.kept (by rw [World.size_setCell]; exact Nat.le_refl _) (fun b hb _ => hblk b (fun e => by rcases hb with hb | hb; exact hb (.inr (.inr (.inl e))); exact h.nSl (e.symm.trans hb)))⟩
theorem TIn.setC (h : TIn w B T S gm gq gl gc n base cs M lv cls top s) (i : Nat) (x : Int) : TIn (w.setCell ⟨gc, i, none⟩ (.int .i64 x)) B T S gm gq gl gc n base cs M lv (cls.set i x) top s := by
  have hblk : ∀ c, c ≠ gc → (w.setCell ⟨gc, i, none⟩ (.int .i64 x)).heap[c]? = w.heap[c]? := fun c hc => heap_setCell_other w ⟨gc, i, none⟩ c _ hc
  have e : ∀ j, (w.setCell ⟨gc, i, none⟩ (.int .i64 x)).cell? ⟨T, j, none⟩ = w.cell? ⟨T, j, none⟩ := fun j => World.cell?_of_block (hblk T (fun e => h.nTc e.symm))
  exact ⟨h.ge, by rw [World.size_setCell]; exact h.lt, (e 0).trans h.c0, (e 1).trans h.c1, (e 2).trans h.c2, (e 3).trans h.c3, (e 4).trans h.c4, h.om.kept (fun k hk => by simp [Value.ownBlock] at hk; subst hk; exact hblk _ h.nm.2.2.2), h.oq.kept (fun k hk => by simp [Value.ownBlock] at hk; subst hk; exact hblk _ h.nq.2.2.2), h.nm, h.nq, h.ol.kept (fun k hk => by simp [Value.ownBlock] at hk; subst hk; exact hblk _ h.nlc), h.oc.storedN i x, h.nlc, h.nTl, h.nTc, h.nTS, h.nSl, h.nSc, h.geS,
    h.st.kept (by rw [World.size_setCell]; exact Nat.le_refl _) (fun b hb _ => hblk b (fun e => by rcases hb with hb | hb; exact hb (.inr (.inr (.inr e))); exact h.nSc (e.symm.trans hb)))⟩
theorem TIn.blwL (h : TIn w B T S gm gq gl gc n base cs M lv cls top s) {w0 : World} (hb : Below B w0 w) (j : Nat) (x : Value) : Below B w0 (w.setCell ⟨gl, j, none⟩ x) := hb.setCell h.gllt.1 _
theorem TIn.blwC (h : TIn w B T S gm gq gl gc n base cs M lv cls top s) {w0 : World} (hb : Below B w0 w) (j : Nat) (x : Value) : Below B w0 (w.setCell ⟨gc, j, none⟩ x) := hb.setCell h.gclt.1 _
theorem TIn.blwS (h : TIn w B T S gm gq gl gc n base cs M lv cls top s) {w0 : World} (hb : Below B w0 w) (hB : B ≤ w.heap.size) (hg : w.grownBy w' (some S)) : Below B w0 w' := hb.grown hg hB (fun k hk => by simp at hk; rw [← hk]; exact h.geS)
theorem TIn.lin (h : TIn w B T S gm gq gl gc n base cs M lv cls top s) : LIn w n gm 0 n gq 0 n cs M :=
  ⟨h.gmlt.2, h.gqlt.2, fun j hj => by have := h.om.len; rw [Nat.zero_add]; exact h.om.cellN j (by omega), fun j hj => by have := h.oq.len; rw [Nat.zero_add]; exact h.oq.cellN j (by omega)⟩
end

theorem side_01 (c : Nat → Int) (mt : Nat → Nat) (to i : Nat) : sideFrom c mt to i = 0 ∨ sideFrom c mt to i = 1 := by
  unfold sideFrom
  generalize to - i = d
  induction d generalizing i with
  | zero => exact .inl rfl
  | succ d ih =>
    simp only [sideG]
    repeat' split
    all_goals first | exact .inl rfl | exact .inr rfl | exact ih _

set_option maxHeartbeats 2000000 in
theorem implOpened {B T S gl gc n gm gq : Nat} {base : Int} {cs M lv cls : List Int} {top : Option Addr} {s : TS} (c : Nat → Int) (mt : Nat → Nat) (i : Nat) (w : World) (hi : i < n) (hn80 : n ≤ 1000) (hcs : cs.length = n) (hM : M.length = n) (hop : opensB (c i) = true)
    (hc : Hid (∀ j, j < n → fn cs j = c j)) (hmt : Hid (MateFn c n mt)) (hsm : Hid (SameMates c n mt M)) (h : TIn w B T S gm gq gl gc n base cs M lv cls top s) :
    Calls Tryz.prog 95 #[.pointer (some ⟨T, 0, none⟩), .int .i64 i] w fun e w' => e = .returned (.int .i64 (dirOf (rightT (c i) (sideFrom c mt (mt i) (i + 1))))) ∧ ∃ m, w' = w.drewN m := by
  have hL := h.lin
  have c1 := h.c1
  have c2 := h.c2
  obtain ⟨ck, hck⟩ : ∃ ck, c i = ck := ⟨_, rfl⟩
  have k1 := hL.am i (by omega)
  rw [hc.out i hi, hck, Nat.zero_add] at k1
  have k2 := hL.aq i (by omega)
  rw [Nat.zero_add] at k2
  have hi0 : (0 : Int) ≤ (i : Int) := by omega
  have hi1 : (i : Int) < (n : Int) := by omega
  have hmi := mt_gt hmt.out hi hop
  have hs := hsm.out i hi hop
  obtain ⟨fs, hfs⟩ : ∃ fs, sideFrom c mt (mt i) (i + 1) = fs := ⟨_, rfl⟩
  rw [hck, hfs]
  have HF : Hid _ := hfs
  have HCS : Hid _ := hcs
  have HM : Hid _ := hM
  have hop2 : 19 ≤ ck ∧ ck ≤ 21 := by rw [hck] at hop; simpa [opensB] using hop
  have HL : Hid _ := hL
  clear h hck hfs hcs hM hop hL
  have hwi : IntKind.i64.wrap ((i : Int) + 1) = (i : Int) + 1 := by rw [IntKind.wrap_i64]; omega
  have hii : Hid ((i : Int) + 1 = ((i + 1 : Nat) : Int)) := by show _ = _; omega
  have hfsb : fs = 0 ∨ fs = 1 := by
    rw [← HF.out]; exact side_01 _ _ _ _
  by_cases q20 : ck = 20
  · subst q20
    rw [show rightT 20 fs = true from by simp [rightT]]
    go_enter Tryz.func95, Tryz.ntmps95
    go_wp2_with fail
    go_ret
    exact ⟨rfl, 0, rfl⟩
  by_cases q19 : ck = 19
  · subst q19
    rw [show rightT 19 fs = false from by simp [rightT]]
    go_enter Tryz.func95, Tryz.ntmps95
    go_wp2_with fail
    go_ret
    exact ⟨rfl, 0, rfl⟩
  have q21 : ck = 21 := by omega
  subst q21
  have hres : dirOf (rightT 21 fs) = ownOf fs := by
    rcases hfsb with e | e <;> subst e <;> simp [rightT, dirOf, ownOf]
  rw [hres]
  have hfs0 : 0 ≤ fs := by omega
  have hside : ∀ q (t : Int), t = (mt i : Int) → Calls Tryz.prog 135 #[.slice (some ⟨gm, 0, none⟩) n n, .slice (some ⟨gq, 0, none⟩) n n, .int .i64 ((i : Int) + 1), .int .i64 t] (w.drewN q) fun e w' => e = .returned (.int .i64 fs) ∧ w' = w.drewN q := fun q t ht => by
    rw [← HF.out]
    exact implSide gm 0 n n gq 0 n cs M c mt _ _ (i + 1) (mt i) _ HCS.out HM.out HL.out.am HL.out.aq (by omega) hc hmt hsm hii.out ht (by omega) hmi.2
  have HSD : Hid _ := hside
  clear hside hres hfsb
  rcases hs with ⟨m1, m2⟩ | ⟨m1, m2⟩
  · rw [m2] at k2
    have hm0 : decide ((mt i : Int) < 0) = false := by simp
    clear m2
    go_enter Tryz.func95, Tryz.ntmps95
    go_wp2_with fail
    go_quiet ((first | (go_at_call 135; exact Calls.quiet_of_same (HSD.out _ _ rfl)) | (go_at_call 66; exact Calls.quiet_of_same (implSideOf _ _ hfs0))))
    go_wp2_with fail
    go_ret
    exact ⟨rfl, _, rfl⟩
  · rw [m2] at k2
    have M1 : Hid _ := m1
    clear m2 m1
    go_enter Tryz.func95, Tryz.ntmps95
    go_wp2_with fail
    go_quiet ((first | (go_at_call 135; exact Calls.quiet_of_same (HSD.out _ _ (by rw [M1.out]))) | (go_at_call 66; exact Calls.quiet_of_same (implSideOf _ _ hfs0))))
    go_wp2_with fail
    go_ret
    exact ⟨rfl, _, rfl⟩
end Go.Proofs.YtgojdlbidjnmmaaGreat
