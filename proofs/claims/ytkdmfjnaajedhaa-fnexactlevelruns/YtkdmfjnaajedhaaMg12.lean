import Derived.Test.YtkdmfjnaajedhaaMg2
import Derived.Deep.OwnRows
import Derived.Test.YtkdmfjnaajedhaaMg11
import Derived.Deep.CutRange
import Derived.Test.YtkdmfjnaajedhaaMg7
namespace Go.Proofs.Ytkdmfjnaajedhaa
open Go.ChangeShapes Go.WideShapes Go.ChangeAt Go.RowKit Go.Deep
set_option linter.unusedSimpArgs false

theorem alloc4 (w : World) (o0 o1 o2 o3 : Obj) : ((((w.alloc o0).alloc o1).alloc o2).alloc o3).heap[w.heap.size]? = some o0 ∧ ((((w.alloc o0).alloc o1).alloc o2).alloc o3).heap[w.heap.size + 1]? = some o1 ∧ ((((w.alloc o0).alloc o1).alloc o2).alloc o3).heap[w.heap.size + 2]? = some o2 ∧ ((((w.alloc o0).alloc o1).alloc o2).alloc o3).heap[w.heap.size + 3]? = some o3 := by
  have e1 : (w.alloc o0).heap.size = w.heap.size + 1 := by simp
  have e2 : ((w.alloc o0).alloc o1).heap.size = w.heap.size + 2 := by simp
  have e3 : (((w.alloc o0).alloc o1).alloc o2).heap.size = w.heap.size + 3 := by simp
  refine ⟨?_, ?_, ?_, ?_⟩
  · exact (heap_alloc_old _ _ (by omega)).trans ((heap_alloc_old _ _ (by omega)).trans ((heap_alloc_old _ _ (by omega)).trans (heap_alloc_new _ _)))
  · rw [← e1]; exact (heap_alloc_old _ _ (by omega)).trans ((heap_alloc_old _ _ (by omega)).trans (heap_alloc_new _ _))
  · rw [← e2]; exact (heap_alloc_old _ _ (by omega)).trans (heap_alloc_new _ _)
  · rw [← e3]; exact heap_alloc_new _ _
theorem made_blk {w : World} {B g n : Nat} (hb : B ≤ g) (h : w.heap[g]? = some (.cells (madeCells #[.int .i64 0] n) 3)) (hm : n ≤ maxLen) : OwnI w B (.slice (some ⟨g, 0, none⟩) n n) (List.replicate n 0) := by
  refine ⟨by simp, .inr ⟨g, n, _, by rw [List.length_replicate], hb, h, by simp, hm, by simp [madeCells], ?_⟩⟩
  rw [toList_madeCells_one]; simp
end Go.Proofs.Ytkdmfjnaajedhaa
namespace Go.Proofs.Ytkdmfjnaajedhaa
open Go.ChangeShapes Go.WideShapes Go.ChangeAt Go.RowKit Go.Deep
set_option linter.unusedSimpArgs false
set_option linter.unusedVariables false

theorem win_made {w : World} {B W gl gc gs n : Nat} {vr : Value} {base : Int} (hn : n ≤ maxLen) (hl : B ≤ gl) (hc : B ≤ gc) (hs : B ≤ gs) (hW : B ≤ W) (h1 : gl ≠ gc) (h2 : gl ≠ W) (h3 : gc ≠ W) (h4 : gs ≠ W ∧ gs ≠ gl ∧ gs ≠ gc)
    (bl : w.heap[gl]? = some (.cells (madeCells #[.int .i64 0] n) 3)) (bc : w.heap[gc]? = some (.cells (madeCells #[.int .i64 0] n) 3)) (bs : w.heap[gs]? = some (.cells #[.int .i64 base, .int .i64 0, .bool false] 54))
    (bW : w.heap[W]? = some (.cells #[vr, .slice (some ⟨gl, 0, none⟩) n n, .slice (some ⟨gc, 0, none⟩) n n, .slice (some ⟨gs, 0, none⟩) 1 1, .int .i64 0, .int .i64 0, .int .i64 0] 38)) :
    WIn w B W gl gc n vr (.slice (some ⟨gs, 0, none⟩) 1 1) (List.replicate n 0) (List.replicate n 0) ⟨[⟨base, 0, false⟩], 0, 0⟩ 0 := by
  have hlt : W < w.heap.size := (Array.getElem?_eq_some_iff.1 bW).1
  have cl : ∀ j, w.cell? ⟨W, j, none⟩ = _ := fun j => cell_of_row w W j _ _ (0, 0) bW
  exact ⟨hW, hlt, by rw [cl]; rfl, by rw [cl]; rfl, by rw [cl]; rfl, by rw [cl]; rfl, by rw [cl]; rfl, by rw [cl]; rfl, by rw [cl]; rfl, fun j => frozen_of_row w W j _ _ bW, made_blk hl bl hn, made_blk hc bc hn,
    ⟨by rfl, .inr ⟨gs, 1, _, rfl, hs, bs, by simp, by unfold maxLen; omega, by rfl, by rfl⟩⟩, h1, h2, h3, fun k hk => by simp [Value.ownBlock] at hk; omega⟩

set_option maxHeartbeats 4000000 in
theorem specAll (b off cap n : Nat) (l : List Int) (mt : Nat → Nat) (base : Int) (w : World) (hn : l.length = n) (hn80 : n ≤ 1000) (hb : b < w.heap.size) (hat : At w b off l) (hmt : Hid (MateFn (cl l) n mt)) (hb01 : 0 ≤ base ∧ base ≤ 1) :
    Calls Try.prog 20 #[.slice (some ⟨b, off, none⟩) n cap, .int .i64 base] w fun e w' => (∃ W gl gc vs lv cls, e = .returned (.pointer (some ⟨W, 0, none⟩)) ∧ WIn w' w.heap.size W gl gc n (.slice (some ⟨b, off, none⟩) n cap) vs lv cls (told (cl l) (fsF (cl l) mt) base n) (cntA (told (cl l) (fsF (cl l) mt) base n).st) ∧ toldTo (cl l) (fsF (cl l) mt) base n n lv cls) ∧ Below w.heap.size w w' := by
  have hmk := fun w => run_make_row' (P := Try.prog) 22 3 (.int .i64 0) 8 Try.underlying22 infoI rfl .i64 .i64 n (by omega) (by omega) w
  have HN : Hid _ := hn
  have hb0 := hb01.1
  clear hn
  go_enter Try.func20, Try.ntmps20
  go_upto_region 1 with fail
  go_cut [5] from 7 to 18 (fun sx wx => ∃ W gl gc vs, sx = .pointer (some ⟨W, 0, none⟩) ∧ Hid (WIn wx w.heap.size W gl gc n (.slice (some ⟨b, off, none⟩) n cap) vs (List.replicate n 0) (List.replicate n 0) ⟨[⟨base, 0, false⟩], 0, 0⟩ 0) ∧ Hid (Below w.heap.size w wx))
  case first =>
    go_region
    all_goals
      go_wp2_with fail
      go_meet
      refine ⟨_, _, _, _, rfl, win_made (by unfold maxLen; omega) (by omega) (by omega) (by omega) (by omega) (by omega) (by omega) (by omega) (by omega) (by first | exact (alloc4 w _ _ _ _).1 | exact (alloc4 w _ _ _ _).2.1 | exact (alloc4 w _ _ _ _).2.2.1) (by first | exact (alloc4 w _ _ _ _).1 | exact (alloc4 w _ _ _ _).2.1 | exact (alloc4 w _ _ _ _).2.2.1) (by first | exact (alloc4 w _ _ _ _).1 | exact (alloc4 w _ _ _ _).2.1 | exact (alloc4 w _ _ _ _).2.2.1) (alloc4 w _ _ _ _).2.2.2, ?_⟩
      exact (((((Below.refl _ w).alloc (Nat.le_refl _) _).alloc (by simp) _).alloc (by simp; omega) _).alloc (by simp; omega) _).drew
  case rest =>
    obtain ⟨W, gl, gc, vs, rfl, hw, hbw⟩ := hcut
    clear hmk
    go_wp2_with fail
    go_loopw [6] (fun q wr => ∃ (i : Nat) (vs' : Value) (lv cls : List Int), i ≤ n ∧ q = .int .i64 i ∧ Hid (WIn wr w.heap.size W gl gc n (.slice (some ⟨b, off, none⟩) n cap) vs' lv cls (told (cl l) (fsF (cl l) mt) base i) (cntA (told (cl l) (fsF (cl l) mt) base i).st)) ∧ Hid (toldTo (cl l) (fsF (cl l) mt) base n i lv cls) ∧ Hid (Below w.heap.size w wr)) (fun q _ => n - (intOf q).toNat)
    case atStart => exact ⟨0, vs, _, _, Nat.zero_le _, rfl, hw, told_zero _ _ _ _, hbw⟩
    case round =>
      obtain ⟨i, vs', lv, cls, hi, rfl, hW, hT, hB⟩ := hrel
      by_cases hlt : i < n
      · have c1 := hW.out.c1
        have hi0 : (0 : Int) ≤ (i : Int) := by omega
        have hi1 : (i : Int) < (n : Int) := by omega
        have cc := hW.out.ol.cellN i hlt
        have ff := hW.out.ol.frozenN i
        have h2 : Hid (WIn (wr.setCell ⟨gl, i, none⟩ (.int .i64 (-1))) w.heap.size W gl gc n (.slice (some ⟨b, off, none⟩) n cap) vs' (lv.set i (-1)) cls (told (cl l) (fsF (cl l) mt) base i) (cntA (told (cl l) (fsF (cl l) mt) base i).st)) := hW.out.setL i (-1)
        have b2 : Hid (Below w.heap.size w (wr.setCell ⟨gl, i, none⟩ (.int .i64 (-1)))) := hW.out.blwL hB.out i _
        have HA : Hid (At (wr.setCell ⟨gl, i, none⟩ (.int .i64 (-1))) b off l) := hat.below b2.out hb
        go_wp2_with fail
        refine (specLetter b off cap l mt _ HN.out hn80 hb HA.out hmt i hlt h2.out (good_told _ _ hb01 i) hb0 b2.out.size).mono ?_
        rintro e w3 ⟨rfl, ⟨vs3, h3⟩, b3⟩
        have H3 : Hid (WIn w3 w.heap.size W gl gc n (.slice (some ⟨b, off, none⟩) n cap) vs3 (lvSet (cl l i) (told (cl l) (fsF (cl l) mt) base i) (lv.set i (-1)) i) (clSet (cl l i) (told (cl l) (fsF (cl l) mt) base i) cls i) (told (cl l) (fsF (cl l) mt) base (i + 1)) (cntA (told (cl l) (fsF (cl l) mt) base (i + 1)).st)) := h3
        have B3 : Hid (Below w.heap.size w w3) := b2.out.trans b3
        clear h3 b3
        go_wp2_with fail
        go_roundw
        case rel => exact ⟨i + 1, vs3, _, _, by omega, by go_num, H3, told_step hT.out hlt, B3⟩
        case measure => simp only [intOf]; omega
      · have e : i = n := by omega
        subst e
        go_wp2_with fail
        go_ret
        exact ⟨⟨W, gl, gc, vs', lv, cls, rfl, hW.out, hT.out⟩, hB.out⟩
end Go.Proofs.Ytkdmfjnaajedhaa
namespace Go.Proofs.Ytkdmfjnaajedhaa
open Go.ChangeShapes Go.WideShapes Go.ChangeAt Go.RowKit Go.Deep
set_option linter.unusedSimpArgs false
set_option linter.unusedVariables false

set_option maxHeartbeats 4000000 in
theorem specAll0 (a : Option Addr) (cap : Nat) (mt : Nat → Nat) (base : Int) (w : World) :
    Calls Try.prog 20 #[.slice a 0 cap, .int .i64 base] w fun e w' => (∃ W gl gc vs, e = .returned (.pointer (some ⟨W, 0, none⟩)) ∧ WIn w' w.heap.size W gl gc 0 (.slice a 0 cap) vs [] [] ⟨[⟨base, 0, false⟩], 0, 0⟩ 0) ∧ Below w.heap.size w w' := by
  have hmk := fun w => run_make_row' (P := Try.prog) 22 3 (.int .i64 0) 8 Try.underlying22 infoI rfl .i64 .i64 0 (by omega) (by omega) w
  simp only [Int.natCast_zero, Int.cast_ofNat_Int] at hmk
  go_enter Try.func20, Try.ntmps20
  go_upto_region 1 with fail
  go_cut [5] from 7 to 18 (fun sx wx => ∃ W gl gc vs, sx = .pointer (some ⟨W, 0, none⟩) ∧ Hid (WIn wx w.heap.size W gl gc 0 (.slice a 0 cap) vs [] [] ⟨[⟨base, 0, false⟩], 0, 0⟩ 0) ∧ Hid (Below w.heap.size w wx))
  case first =>
    go_region
    all_goals
      go_wp2_with fail
      go_meet
      refine ⟨_, _, _, _, rfl, win_made (n := 0) (by unfold maxLen; omega) (by omega) (by omega) (by omega) (by omega) (by omega) (by omega) (by omega) (by omega) (by first | exact (alloc4 w _ _ _ _).1 | exact (alloc4 w _ _ _ _).2.1 | exact (alloc4 w _ _ _ _).2.2.1) (by first | exact (alloc4 w _ _ _ _).1 | exact (alloc4 w _ _ _ _).2.1 | exact (alloc4 w _ _ _ _).2.2.1) (by first | exact (alloc4 w _ _ _ _).1 | exact (alloc4 w _ _ _ _).2.1 | exact (alloc4 w _ _ _ _).2.2.1) (alloc4 w _ _ _ _).2.2.2, ?_⟩
      exact (((((Below.refl _ w).alloc (Nat.le_refl _) _).alloc (by simp) _).alloc (by simp; omega) _).alloc (by simp; omega) _).drew
  case rest =>
    obtain ⟨W, gl, gc, vs, rfl, hw, hbw⟩ := hcut
    clear hmk
    go_wp2_with fail
    go_rounds 1
    go_ret
    exact ⟨⟨W, gl, gc, vs, rfl, hw.out⟩, hbw.out⟩

/-- What l3All tells. -/
theorem specAll_any (v : Value) (l : List Int) (mt : Nat → Nat) (base : Int) (w : World) (a : Option Addr) (cap : Nat) (hva : v = .slice a l.length cap) (hv : Arg w v l) (hn80 : l.length ≤ 1000) (hmt : Hid (MateFn (cl l) l.length mt)) (hb01 : 0 ≤ base ∧ base ≤ 1) :
    Calls Try.prog 20 #[v, .int .i64 base] w fun e w' => (∃ W gl gc vs s al, e = .returned (.pointer (some ⟨W, 0, none⟩)) ∧ WIn w' w.heap.size W gl gc l.length v vs (lvL (cl l) (fsF (cl l) mt) base l.length) (clL (cl l) (fsF (cl l) mt) base l.length) s al) ∧ Below w.heap.size w w' := by
  subst hva
  rcases hv with ⟨a', cap', e, rfl⟩ | ⟨b, off, cap', e, hb, hlc, hcm, hat⟩
  · refine (specAll0 a cap mt base w).mono ?_
    rintro e w1 ⟨⟨W, gl, gc, vs, rfl, h⟩, b1⟩
    exact ⟨⟨W, gl, gc, vs, _, _, rfl, h⟩, b1⟩
  · simp only [Value.slice.injEq, true_and] at e
    obtain ⟨rfl, rfl⟩ := e
    refine (specAll b off cap l.length l mt base w rfl hn80 hb hat hmt hb01).mono ?_
    rintro e w1 ⟨⟨W, gl, gc, vs, lv, cls, rfl, h, ht⟩, b1⟩
    obtain ⟨e1, e2⟩ := told_end ht
    rw [e1, e2] at h
    exact ⟨⟨W, gl, gc, vs, _, _, rfl, h⟩, b1⟩

set_option maxHeartbeats 1000000 in
theorem specOk3 (v : Value) (l : List Int) (base : Int) (w : World) (hv : Arg w v l) (hl : l.length ≤ 4194304) :
    Calls Try.prog 19 #[v, .int .i64 base] w fun e w' => e = .returned (.bool (okT l base)) ∧ w' = w := by
  have hvb : inB base 0 1 = baseB base := rfl
  have HV : Hid _ := hvb
  clear hvb
  obtain ⟨q, hq⟩ : ∃ q, okF (fn l) l.length = q := ⟨_, rfl⟩
  have HQ : Hid _ := hq
  have hfin : okT l base = (q && baseB base) := by unfold okT; rw [hq]
  rw [hfin]
  clear hfin hq
  cases q
  · go_enter Try.func19, Try.ntmps19
    go_wp2_with (first | (go_at_call 25; refine (specOk v l _ hv hl).mono ?_; rintro e w1 ⟨rfl, rfl⟩; rw [HQ.out]) | (go_at_call 33; refine (specIn _ _ _ _).mono ?_; rintro e w1 ⟨rfl, rfl⟩; rw [HV.out]))
    go_ret
    exact ⟨rfl, rfl⟩
  · go_enter Try.func19, Try.ntmps19
    go_wp2_with (first | (go_at_call 25; refine (specOk v l _ hv hl).mono ?_; rintro e w1 ⟨rfl, rfl⟩; rw [HQ.out]) | (go_at_call 33; refine (specIn _ _ _ _).mono ?_; rintro e w1 ⟨rfl, rfl⟩; rw [HV.out]))
    go_ret
    exact ⟨rfl, rfl⟩

set_option maxHeartbeats 2000000 in
theorem specTold (v : Value) (l : List Int) (mt : Nat → Nat) (base : Int) (w : World) (a : Option Addr) (cap : Nat) (hva : v = .slice a l.length cap) (hv : Arg w v l) (hl : l.length ≤ 1048576) (hmt : Hid (MateFn (cl l) l.length mt)) :
    Calls Try.prog 6 #[v, .int .i64 base] w fun e w' => (∃ v1 v2, e = .returned (.tuple #[v1, v2]) ∧ OwnI w' w.heap.size v1 (toldL l mt base) ∧ OwnI w' w.heap.size v2 (toldC l mt base) ∧ Apart v1 v2) ∧ Below w.heap.size w w' := by
  subst hva
  obtain ⟨q, hq⟩ : ∃ q, okT l base = q := ⟨_, rfl⟩
  have HQ : Hid _ := hq
  unfold toldL toldC
  rw [hq]
  cases q
  · rw [if_neg (by simp), if_neg (by simp)]
    clear hq
    have o1 := own_empty w w.heap.size 3 (Nat.le_refl _) rfl
    have o2 := own_empty (w.alloc (.cells #[] 3)) w.heap.size 3 (by simp) rfl
    have O1 : Hid (OwnI ((w.alloc (.cells #[] 3)).alloc (.cells #[] 3)) w.heap.size (.slice (some ⟨w.heap.size, 0, none⟩) 0 0) []) := o1.below (below_new _ _)
    have O2 : Hid (OwnI ((w.alloc (.cells #[] 3)).alloc (.cells #[] 3)) w.heap.size (.slice (some ⟨w.heap.size + 1, 0, none⟩) 0 0) []) := by
      have e : (w.alloc (.cells #[] 3)).heap.size = w.heap.size + 1 := by simp
      rw [e] at o2; exact o2
    have AP : Hid (Apart (.slice (some ⟨w.heap.size, 0, none⟩) 0 0) (.slice (some ⟨w.heap.size + 1, 0, none⟩) 0 0)) := fun k h1 h2 => by
      simp [Value.ownBlock] at h1 h2
      omega
    have BB : Hid (Below w.heap.size w ((w.alloc (.cells #[] 3)).alloc (.cells #[] 3))) := ((Below.refl _ _).alloc (Nat.le_refl _) _).alloc (by simp) _
    clear o1 o2
    go_enter Try.func6, Try.ntmps6
    go_wp2_with (go_at_call 19; refine (specOk3 _ l base _ hv (by omega)).mono ?_; rintro e w1 ⟨rfl, rfl⟩; rw [HQ.out])
    go_ret2
    exact ⟨⟨_, _, rfl, O1.out, O2.out, AP.out⟩, BB.out⟩
  · obtain ⟨_, hb01, h80⟩ := okT_out hq
    rw [if_pos rfl, if_pos rfl]
    clear hq
    go_enter Try.func6, Try.ntmps6
    go_wp2_with (go_at_call 19; refine (specOk3 _ l base _ hv (by omega)).mono ?_; rintro e w1 ⟨rfl, rfl⟩; rw [HQ.out])
    refine (specAll_any _ l mt base _ a cap rfl hv (by omega) hmt hb01).mono ?_
    rintro e w2 ⟨⟨W, gl, gc, vs, s, al, rfl, h⟩, b2⟩
    have c1 := h.c1
    have c2 := h.c2
    go_wp2_with fail
    go_quiet (fail)
    go_wp2_with fail
    go_ret2
    refine ⟨⟨_, _, rfl, h.ol.drewN _, h.oc.drewN _, fun k h1 h2 => ?_⟩, bstep b2 (below_draws _ _)⟩
    simp [Value.ownBlock] at h1 h2
    exact h.nlc (by omega)
end Go.Proofs.Ytkdmfjnaajedhaa
