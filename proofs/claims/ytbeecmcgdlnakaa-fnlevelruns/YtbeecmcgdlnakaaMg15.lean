import Derived.Test.YtbeecmcgdlnakaaMg3
import Derived.Test.YtbeecmcgdlnakaaMg6
import Derived.Test.YtbeecmcgdlnakaaMg7
import Derived.Test.YtbeecmcgdlnakaaMg2
import Derived.Deep.OwnRows
import Derived.Test.YtbeecmcgdlnakaaMg14
import Derived.Deep.CutRange
namespace Go.Proofs.Ytbeecmcgdlnakaa
set_option linter.unusedSimpArgs false
set_option linter.unusedVariables false

/-- What the levels are told to be, up to a letter. -/
def toldTo (c fs : Nat → Int) (base : Int) (n i : Nat) (lv cls : List Int) : Prop :=
  lv.length = n ∧ cls.length = n ∧ (∀ j, j < i → fn lv j = lvAt c fs base j ∧ fn cls j = clAt c fs base j) ∧ ∀ j, i ≤ j → j < n → fn cls j = 0
theorem told_zero (c fs : Nat → Int) (base : Int) (n : Nat) : toldTo c fs base n 0 (List.replicate n 0) (List.replicate n 0) :=
  ⟨by simp, by simp, fun j hj => by omega, fun j _ hj => by simp [fn, hj]⟩
theorem told_step {c fs : Nat → Int} {base : Int} {n i : Nat} {lv cls : List Int} (h : toldTo c fs base n i lv cls) (hi : i < n) :
    toldTo c fs base n (i + 1) (lvSet (c i) (told c fs base i) (lv.set i (-1)) i) (clSet (c i) (told c fs base i) cls i) := by
  obtain ⟨h1, h2, h3, h4⟩ := h
  unfold lvSet clSet
  by_cases ht : tellsB (c i) = true
  · rw [if_pos ht, if_pos ht]
    refine ⟨by simp [h1], h2, fun j hj => ?_, fun j a b => h4 j (by omega) b⟩
    by_cases e : j = i
    · subst e
      rw [fn_set_same (by omega), h4 j (Nat.le_refl _) hi]
      unfold lvAt lvT clAt clT
      rw [if_pos ht, if_pos ht]; exact ⟨rfl, rfl⟩
    · rw [fn_set_other (by omega)]; exact h3 j (by omega)
  · rw [if_neg ht, if_neg ht]
    refine ⟨by simp [h1], by simp [h2], fun j hj => ?_, fun j a b => by rw [fn_set_other (by omega)]; exact h4 j (by omega) b⟩
    by_cases e : j = i
    · subst e
      rw [fn_set_same (by simp; omega), fn_set_same (by omega)]
      unfold lvAt lvT clAt clT
      rw [if_neg ht, if_neg ht]; exact ⟨rfl, rfl⟩
    · rw [fn_set_other (by omega), fn_set_other (by omega), fn_set_other (by omega)]; exact h3 j (by omega)
/-- The side by which FSI is read. -/
def fsF (c : Nat → Int) (mt : Nat → Nat) (i : Nat) : Int := sideFrom c mt (mt i) (i + 1)

def baseB (b : Int) : Bool := decide (0 ≤ b ∧ b ≤ 1)
def okT (l : List Int) (base : Int) : Bool := okF (fn l) l.length && baseB base
theorem okT_out {l : List Int} {base : Int} (h : okT l base = true) : okF (fn l) l.length = true ∧ (0 ≤ base ∧ base ≤ 1) ∧ l.length ≤ 80 := by
  simp only [okT, Bool.and_eq_true, baseB, decide_eq_true_eq] at h
  exact ⟨h.1, h.2, okF_len h.1⟩
/-- The levels as they are told, and the classes. -/
def lvL (c fs : Nat → Int) (base : Int) (n : Nat) : List Int := (List.range n).map (lvAt c fs base)
def clL (c fs : Nat → Int) (base : Int) (n : Nat) : List Int := (List.range n).map (clAt c fs base)
theorem lvL_len (c fs : Nat → Int) (base : Int) (n : Nat) : (lvL c fs base n).length = n := by simp [lvL]
theorem clL_len (c fs : Nat → Int) (base : Int) (n : Nat) : (clL c fs base n).length = n := by simp [clL]
theorem fn_lvL {c fs : Nat → Int} {base : Int} {n j : Nat} (h : j < n) : fn (lvL c fs base n) j = lvAt c fs base j := by simp [fn, lvL, h]
theorem fn_clL {c fs : Nat → Int} {base : Int} {n j : Nat} (h : j < n) : fn (clL c fs base n) j = clAt c fs base j := by simp [fn, clL, h]
theorem told_end {c fs : Nat → Int} {base : Int} {n : Nat} {lv cls : List Int} (h : toldTo c fs base n n lv cls) : lv = lvL c fs base n ∧ cls = clL c fs base n :=
  ⟨ext_fn (by rw [lvL_len]; exact h.1) (fun j hj => by have := h.1; rw [(h.2.2.1 j (by omega)).1, fn_lvL (by omega)]), ext_fn (by rw [clL_len]; exact h.2.1) (fun j hj => by have := h.2.1; rw [(h.2.2.1 j (by omega)).2, fn_clL (by omega)])⟩
def toldL (l : List Int) (mt : Nat → Nat) (base : Int) : List Int := if okT l base = true then lvL (cl l) (fsF (cl l) mt) base l.length else []
def toldC (l : List Int) (mt : Nat → Nat) (base : Int) : List Int := if okT l base = true then clL (cl l) (fsF (cl l) mt) base l.length else []

theorem toldL_le (l : List Int) (mt : Nat → Nat) (base : Int) : (toldL l mt base).length ≤ l.length := by unfold toldL; split <;> simp [lvL_len]
theorem toldC_le (l : List Int) (mt : Nat → Nat) (base : Int) : (toldC l mt base).length ≤ l.length := by unfold toldC; split <;> simp [clL_len]
end Go.Proofs.Ytbeecmcgdlnakaa
namespace Go.Proofs.Ytbeecmcgdlnakaa
open Go.ChangeShapes Go.WideShapes Go.ChangeAt Go.RowKit Go.Deep
set_option linter.unusedSimpArgs false

theorem alloc4 (w : World) (o0 o1 o2 o3 : Obj) : ((((w.alloc o0).alloc o1).alloc o2).alloc o3).heap[w.heap.size]? = some o0 ∧ ((((w.alloc o0).alloc o1).alloc o2).alloc o3).heap[w.heap.size + 1]? = some o1 ∧ ((((w.alloc o0).alloc o1).alloc o2).alloc o3).heap[w.heap.size + 2]? = some o2 ∧ ((((w.alloc o0).alloc o1).alloc o2).alloc o3).heap[w.heap.size + 3]? = some o3 := by
  have e1 : (w.alloc o0).heap.size = w.heap.size + 1 := by simp
  have e2 : ((w.alloc o0).alloc o1).heap.size = w.heap.size + 2 := by simp
  have e3 : (((w.alloc o0).alloc o1).alloc o2).heap.size = w.heap.size + 3 := by simp
  refine ⟨?_, ?_, ?_, ?_⟩
  · exact (heap_alloc_old _ _ (by omega)).trans ((heap_alloc_old _ _ (by omega)).trans ((heap_alloc_old _ _ (by omega)).trans (heap_alloc_new _ _)))
  · rw [← e1]; exact (heap_alloc_old _ _ (by omega)).trans ((heap_alloc_old _ _ (by omega)).trans (heap_alloc_new _ _))
  · rw [← e2]; exact (heap_alloc_old _ _ (by omega)).trans (heap_alloc_new _ _)
  · rw [← e3]; exact heap_alloc_new _ _
theorem made_blk {w : World} {B g n : Nat} (hb : B ≤ g) (h : w.heap[g]? = some (.cells (madeCells #[.int .i64 0] n) 3)) (hm : n ≤ maxLen) : OwnI w B (.slice (some ⟨g, 0, none⟩) n n) (List.replicate n 0) := by
  refine ⟨by simp, .inr ⟨g, n, _, by rw [List.length_replicate], hb, h, by simp, hm, by simp [madeCells], ?_⟩⟩
  rw [toList_madeCells_one]; simp
end Go.Proofs.Ytbeecmcgdlnakaa
namespace Go.Proofs.Ytbeecmcgdlnakaa
open Go.ChangeShapes Go.WideShapes Go.ChangeAt Go.RowKit Go.Deep
set_option linter.unusedSimpArgs false
set_option linter.unusedVariables false

theorem win_made {w : World} {B W gl gc gs n : Nat} {vr : Value} {base : Int} (hn : n ≤ maxLen) (hl : B ≤ gl) (hc : B ≤ gc) (hs : B ≤ gs) (hW : B ≤ W) (h1 : gl ≠ gc) (h2 : gl ≠ W) (h3 : gc ≠ W) (h4 : gs ≠ W ∧ gs ≠ gl ∧ gs ≠ gc)
    (bl : w.heap[gl]? = some (.cells (madeCells #[.int .i64 0] n) 3)) (bc : w.heap[gc]? = some (.cells (madeCells #[.int .i64 0] n) 3)) (bs : w.heap[gs]? = some (.cells #[.int .i64 base, .int .i64 0, .bool false] 73))
    (bW : w.heap[W]? = some (.cells #[vr, .slice (some ⟨gl, 0, none⟩) n n, .slice (some ⟨gc, 0, none⟩) n n, .slice (some ⟨gs, 0, none⟩) 1 1, .int .i64 0, .int .i64 0, .int .i64 0] 53)) :
    WIn w B W gl gc n vr (.slice (some ⟨gs, 0, none⟩) 1 1) (List.replicate n 0) (List.replicate n 0) ⟨[⟨base, 0, false⟩], 0, 0⟩ 0 := by
  have hlt : W < w.heap.size := (Array.getElem?_eq_some_iff.1 bW).1
  have cl : ∀ j, w.cell? ⟨W, j, none⟩ = _ := fun j => cell_of_row w W j _ _ (0, 0) bW
  exact ⟨hW, hlt, by rw [cl]; rfl, by rw [cl]; rfl, by rw [cl]; rfl, by rw [cl]; rfl, by rw [cl]; rfl, by rw [cl]; rfl, by rw [cl]; rfl, fun j => frozen_of_row w W j _ _ bW, made_blk hl bl hn, made_blk hc bc hn,
    ⟨by rfl, .inr ⟨gs, 1, _, rfl, hs, bs, by simp, by unfold maxLen; omega, by rfl, by rfl⟩⟩, h1, h2, h3, fun k hk => by simp [Value.ownBlock] at hk; omega⟩

set_option maxHeartbeats 4000000 in
theorem specAll (b off cap n : Nat) (l : List Int) (mt : Nat → Nat) (base : Int) (w : World) (hn : l.length = n) (hn80 : n ≤ 1000) (hb : b < w.heap.size) (hat : At w b off l) (hmt : Hid (MateFn (cl l) n mt)) (hb01 : 0 ≤ base ∧ base ≤ 1) :
    Calls Try.prog 35 #[.slice (some ⟨b, off, none⟩) n cap, .int .i64 base] w fun e w' => (∃ W gl gc vs lv cls, e = .returned (.pointer (some ⟨W, 0, none⟩)) ∧ WIn w' w.heap.size W gl gc n (.slice (some ⟨b, off, none⟩) n cap) vs lv cls (told (cl l) (fsF (cl l) mt) base n) (cntA (told (cl l) (fsF (cl l) mt) base n).st) ∧ toldTo (cl l) (fsF (cl l) mt) base n n lv cls) ∧ Below w.heap.size w w' := by
  have hmk := fun w => run_make_row' (P := Try.prog) 23 3 (.int .i64 0) 8 Try.underlying23 infoI rfl .i64 .i64 n (by omega) (by omega) w
  have HN : Hid _ := hn
  have hb0 := hb01.1
  clear hn
  go_enter Try.func35, Try.ntmps35
  go_upto_region 1 with fail
  go_cut [5] from 7 to 18 (fun sx wx => ∃ W gl gc vs, sx = .pointer (some ⟨W, 0, none⟩) ∧ Hid (WIn wx w.heap.size W gl gc n (.slice (some ⟨b, off, none⟩) n cap) vs (List.replicate n 0) (List.replicate n 0) ⟨[⟨base, 0, false⟩], 0, 0⟩ 0) ∧ Hid (Below w.heap.size w wx))
  case first =>
    go_region
    all_goals
      go_wp2_with fail
      go_meet
      refine ⟨_, _, _, _, rfl, win_made (by unfold maxLen; omega) (by omega) (by omega) (by omega) (by omega) (by omega) (by omega) (by omega) (by omega) (by first | exact (alloc4 w _ _ _ _).1 | exact (alloc4 w _ _ _ _).2.1 | exact (alloc4 w _ _ _ _).2.2.1) (by first | exact (alloc4 w _ _ _ _).1 | exact (alloc4 w _ _ _ _).2.1 | exact (alloc4 w _ _ _ _).2.2.1) (by first | exact (alloc4 w _ _ _ _).1 | exact (alloc4 w _ _ _ _).2.1 | exact (alloc4 w _ _ _ _).2.2.1) (alloc4 w _ _ _ _).2.2.2, ?_⟩
      exact (((((Below.refl _ w).alloc (Nat.le_refl _) _).alloc (by simp) _).alloc (by simp; omega) _).alloc (by simp; omega) _).drew
  case rest =>
    obtain ⟨W, gl, gc, vs, rfl, hw, hbw⟩ := hcut
    clear hmk
    go_wp2_with fail
    go_loopw [6] (fun q wr => ∃ (i : Nat) (vs' : Value) (lv cls : List Int), i ≤ n ∧ q = .int .i64 i ∧ Hid (WIn wr w.heap.size W gl gc n (.slice (some ⟨b, off, none⟩) n cap) vs' lv cls (told (cl l) (fsF (cl l) mt) base i) (cntA (told (cl l) (fsF (cl l) mt) base i).st)) ∧ Hid (toldTo (cl l) (fsF (cl l) mt) base n i lv cls) ∧ Hid (Below w.heap.size w wr)) (fun q _ => n - (intOf q).toNat)
    case atStart => exact ⟨0, vs, _, _, Nat.zero_le _, rfl, hw, told_zero _ _ _ _, hbw⟩
    case round =>
      obtain ⟨i, vs', lv, cls, hi, rfl, hW, hT, hB⟩ := hrel
      by_cases hlt : i < n
      · have c1 := hW.out.c1
        have hi0 : (0 : Int) ≤ (i : Int) := by omega
        have hi1 : (i : Int) < (n : Int) := by omega
        have cc := hW.out.ol.cellN i hlt
        have ff := hW.out.ol.frozenN i
        have h2 : Hid (WIn (wr.setCell ⟨gl, i, none⟩ (.int .i64 (-1))) w.heap.size W gl gc n (.slice (some ⟨b, off, none⟩) n cap) vs' (lv.set i (-1)) cls (told (cl l) (fsF (cl l) mt) base i) (cntA (told (cl l) (fsF (cl l) mt) base i).st)) := hW.out.setL i (-1)
        have b2 : Hid (Below w.heap.size w (wr.setCell ⟨gl, i, none⟩ (.int .i64 (-1)))) := hW.out.blwL hB.out i _
        have HA : Hid (At (wr.setCell ⟨gl, i, none⟩ (.int .i64 (-1))) b off l) := hat.below b2.out hb
        go_wp2_with fail
        refine (specLetter b off cap l mt _ HN.out hn80 hb HA.out hmt i hlt h2.out (good_told _ _ hb01 i) hb0 b2.out.size).mono ?_
        rintro e w3 ⟨rfl, ⟨vs3, h3⟩, b3⟩
        have H3 : Hid (WIn w3 w.heap.size W gl gc n (.slice (some ⟨b, off, none⟩) n cap) vs3 (lvSet (cl l i) (told (cl l) (fsF (cl l) mt) base i) (lv.set i (-1)) i) (clSet (cl l i) (told (cl l) (fsF (cl l) mt) base i) cls i) (told (cl l) (fsF (cl l) mt) base (i + 1)) (cntA (told (cl l) (fsF (cl l) mt) base (i + 1)).st)) := h3
        have B3 : Hid (Below w.heap.size w w3) := b2.out.trans b3
        clear h3 b3
        go_wp2_with fail
        go_roundw
        case rel => exact ⟨i + 1, vs3, _, _, by omega, by go_num, H3, told_step hT.out hlt, B3⟩
        case measure => simp only [intOf]; omega
      · have e : i = n := by omega
        subst e
        go_wp2_with fail
        go_ret
        exact ⟨⟨W, gl, gc, vs', lv, cls, rfl, hW.out, hT.out⟩, hB.out⟩
end Go.Proofs.Ytbeecmcgdlnakaa
