import Derived.Test.YtgojdlbidjnmmaaGreatToldS5
import Derived.Test.YtgojdlbidjnmmaaGreatToldL
import Derived.Test.YtgojdlbidjnmmaaGreatAlloc4
import Derived.Deep.CutRange
namespace Go.Proofs.YtgojdlbidjnmmaaGreat
open Go.ChangeShapes Go.WideShapes Go.ChangeAt Go.RowKit Go.Deep
set_option linter.unusedSimpArgs false
set_option linter.unusedVariables false

theorem win_made {w : World} {B W gl gc gs n : Nat} {vr : Value} {base : Int} (hn : n ≤ maxLen) (hl : B ≤ gl) (hc : B ≤ gc) (hs : B ≤ gs) (hW : B ≤ W) (h1 : gl ≠ gc) (h2 : gl ≠ W) (h3 : gc ≠ W) (h4 : gs ≠ W ∧ gs ≠ gl ∧ gs ≠ gc)
    (bl : w.heap[gl]? = some (.cells (madeCells #[.int .i64 0] n) 3)) (bc : w.heap[gc]? = some (.cells (madeCells #[.int .i64 0] n) 3)) (bs : w.heap[gs]? = some (.cells #[.int .i64 base, .int .i64 0, .bool false] 105))
    (bW : w.heap[W]? = some (.cells #[vr, .slice (some ⟨gl, 0, none⟩) n n, .slice (some ⟨gc, 0, none⟩) n n, .slice (some ⟨gs, 0, none⟩) 1 1, .int .i64 0, .int .i64 0, .int .i64 0] 85)) :
    WIn w B W gl gc n vr (.slice (some ⟨gs, 0, none⟩) 1 1) (List.replicate n 0) (List.replicate n 0) ⟨[⟨base, 0, false⟩], 0, 0⟩ 0 := by
  have hlt : W < w.heap.size := (Array.getElem?_eq_some_iff.1 bW).1
  have cl : ∀ j, w.cell? ⟨W, j, none⟩ = _ := fun j => cell_of_row w W j _ _ (0, 0) bW
  exact ⟨hW, hlt, by rw [cl]; rfl, by rw [cl]; rfl, by rw [cl]; rfl, by rw [cl]; rfl, by rw [cl]; rfl, by rw [cl]; rfl, by rw [cl]; rfl, fun j => frozen_of_row w W j _ _ bW, made_blk hl bl hn, made_blk hc bc hn,
    ⟨by rfl, .inr ⟨gs, 1, _, rfl, hs, bs, by simp, by unfold maxLen; omega, by rfl, by rfl⟩⟩, h1, h2, h3, fun k hk => by simp [Value.ownBlock] at hk; omega⟩

set_option maxHeartbeats 4000000 in
theorem specAll (b off cap n : Nat) (l : List Int) (mt : Nat → Nat) (base : Int) (w : World) (hn : l.length = n) (hn80 : n ≤ 1000) (hb : b < w.heap.size) (hat : At w b off l) (hmt : Hid (MateFn (cl l) n mt)) (hb01 : 0 ≤ base ∧ base ≤ 1) :
    Calls Tryz.prog 71 #[.slice (some ⟨b, off, none⟩) n cap, .int .i64 base] w fun e w' => (∃ W gl gc vs lv cls, e = .returned (.pointer (some ⟨W, 0, none⟩)) ∧ WIn w' w.heap.size W gl gc n (.slice (some ⟨b, off, none⟩) n cap) vs lv cls (told (cl l) (fsF (cl l) mt) base n) (cntA (told (cl l) (fsF (cl l) mt) base n).st) ∧ toldTo (cl l) (fsF (cl l) mt) base n n lv cls) ∧ Below w.heap.size w w' := by
  have hmk := fun w => run_make_row' (P := Tryz.prog) 23 3 (.int .i64 0) 8 Tryz.underlying23 infoI rfl .i64 .i64 n (by omega) (by omega) w
  have HN : Hid _ := hn
  have hb0 := hb01.1
  clear hn
  go_enter Tryz.func71, Tryz.ntmps71
  go_upto_region 1 with fail
  go_cut [5] from 7 to 18 (fun sx wx => ∃ W gl gc vs, sx = .pointer (some ⟨W, 0, none⟩) ∧ Hid (WIn wx w.heap.size W gl gc n (.slice (some ⟨b, off, none⟩) n cap) vs (List.replicate n 0) (List.replicate n 0) ⟨[⟨base, 0, false⟩], 0, 0⟩ 0) ∧ Hid (Below w.heap.size w wx))
  case first =>
    go_region
    all_goals
      go_wp2_with fail
      go_meet
      refine ⟨_, _, _, _, rfl, win_made (by unfold maxLen; omega) (by omega) (by omega) (by omega) (by omega) (by omega) (by omega) (by omega) (by omega) (by first | exact (alloc4 w _ _ _ _).1 | exact (alloc4 w _ _ _ _).2.1 | exact (alloc4 w _ _ _ _).2.2.1) (by first | exact (alloc4 w _ _ _ _).1 | exact (alloc4 w _ _ _ _).2.1 | exact (alloc4 w _ _ _ _).2.2.1) (by first | exact (alloc4 w _ _ _ _).1 | exact (alloc4 w _ _ _ _).2.1 | exact (alloc4 w _ _ _ _).2.2.1) (alloc4 w _ _ _ _).2.2.2, ?_⟩
      exact (((((Below.refl _ w).alloc (Nat.le_refl _) _).alloc (by simp) _).alloc (by simp; omega) _).alloc (by simp; omega) _).drew
  case rest =>
    obtain ⟨W, gl, gc, vs, rfl, hw, hbw⟩ := hcut
    clear hmk
    go_wp2_with fail
    go_loopw [6] (fun q wr => ∃ (i : Nat) (vs' : Value) (lv cls : List Int), i ≤ n ∧ q = .int .i64 i ∧ Hid (WIn wr w.heap.size W gl gc n (.slice (some ⟨b, off, none⟩) n cap) vs' lv cls (told (cl l) (fsF (cl l) mt) base i) (cntA (told (cl l) (fsF (cl l) mt) base i).st)) ∧ Hid (toldTo (cl l) (fsF (cl l) mt) base n i lv cls) ∧ Hid (Below w.heap.size w wr)) (fun q _ => n - (intOf q).toNat)
    case atStart => exact ⟨0, vs, _, _, Nat.zero_le _, rfl, hw, told_zero _ _ _ _, hbw⟩
    case round =>
      obtain ⟨i, vs', lv, cls, hi, rfl, hW, hT, hB⟩ := hrel
      by_cases hlt : i < n
      · have c1 := hW.out.c1
        have hi0 : (0 : Int) ≤ (i : Int) := by omega
        have hi1 : (i : Int) < (n : Int) := by omega
        have cc := hW.out.ol.cellN i hlt
        have ff := hW.out.ol.frozenN i
        have h2 : Hid (WIn (wr.setCell ⟨gl, i, none⟩ (.int .i64 (-1))) w.heap.size W gl gc n (.slice (some ⟨b, off, none⟩) n cap) vs' (lv.set i (-1)) cls (told (cl l) (fsF (cl l) mt) base i) (cntA (told (cl l) (fsF (cl l) mt) base i).st)) := hW.out.setL i (-1)
        have b2 : Hid (Below w.heap.size w (wr.setCell ⟨gl, i, none⟩ (.int .i64 (-1)))) := hW.out.blwL hB.out i _
        have HA : Hid (At (wr.setCell ⟨gl, i, none⟩ (.int .i64 (-1))) b off l) := hat.below b2.out hb
        go_wp2_with fail
        refine (specLetter b off cap l mt _ HN.out hn80 hb HA.out hmt i hlt h2.out (good_told _ _ hb01 i) hb0 b2.out.size).mono ?_
        rintro e w3 ⟨rfl, ⟨vs3, h3⟩, b3⟩
        have H3 : Hid (WIn w3 w.heap.size W gl gc n (.slice (some ⟨b, off, none⟩) n cap) vs3 (lvSet (cl l i) (told (cl l) (fsF (cl l) mt) base i) (lv.set i (-1)) i) (clSet (cl l i) (told (cl l) (fsF (cl l) mt) base i) cls i) (told (cl l) (fsF (cl l) mt) base (i + 1)) (cntA (told (cl l) (fsF (cl l) mt) base (i + 1)).st)) := h3
        have B3 : Hid (Below w.heap.size w w3) := b2.out.trans b3
        clear h3 b3
        go_wp2_with fail
        go_roundw
        case rel => exact ⟨i + 1, vs3, _, _, by omega, by go_num, H3, told_step hT.out hlt, B3⟩
        case measure => simp only [intOf]; omega
      · have e : i = n := by omega
        subst e
        go_wp2_with fail
        go_ret
        exact ⟨⟨W, gl, gc, vs', lv, cls, rfl, hW.out, hT.out⟩, hB.out⟩
end Go.Proofs.YtgojdlbidjnmmaaGreat
