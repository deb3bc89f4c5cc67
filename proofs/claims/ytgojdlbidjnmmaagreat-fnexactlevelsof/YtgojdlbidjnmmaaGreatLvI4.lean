import Derived.Test.YtgojdlbidjnmmaaGreatLvI3
import Derived.Test.YtgojdlbidjnmmaaGreatGrow
import Derived.Deep.QuietTactic
import Derived.BigQuiet
import Derived.BigRegion
import Derived.Deep.RegionWith
namespace Go.Proofs.YtgojdlbidjnmmaaGreat
open Go.ChangeShapes Go.WideShapes Go.ChangeAt Go.RowKit
set_option linter.unusedSimpArgs false
set_option linter.unusedVariables false

theorem maxI_lt {a b : Int} (h : a < b) : maxI a b = b := by unfold maxI; rw [if_pos h]
theorem maxI_ge {a b : Int} (h : ¬ a < b) : maxI a b = a := by unfold maxI; rw [if_neg h]
set_option maxRecDepth 10000 in
set_option maxHeartbeats 8000000 in
theorem implSides (g m cap f t : Nat) (lvl : Int) {B T gm gq gl gc n : Nat} {base : Int} {cs M L cls : List Int} {c : Nat → Int} {mt : Nat → Nat} (w : World) (h : TT w B T gm gq gl gc n base cs M L cls) (hn80 : n ≤ 80) (h0 : 0 ≤ lvl) (h22 : lvl ≤ 22) (hf : w.cell? ⟨g, 0, none⟩ = some (.int .i64 (f : Int))) (ht : w.cell? ⟨g, m, none⟩ = some (.int .i64 (t : Int))) (hm : m ≤ 1048576) (hfn : f < n) (htn : t < n) (hg : g < w.heap.size) (hcs : ∀ j, j < n → fn cs j = c j) (hsm : SameMates c n mt M) (hbd : 0 ≤ base ∧ base ≤ 22) (hlv : ∀ j, fn L j ≤ 22) :
    Calls Tryz.prog 63 #[.pointer (some ⟨T, 0, none⟩), .agg #[.slice (some ⟨g, 0, none⟩) (m + 1) cap, .int .i64 lvl]] w fun e w' => e = .returned (.tuple #[.int .i64 (sidA (fn L) base lvl f), .int .i64 (sidB c (fn L) n mt base lvl t)]) ∧ Below w.heap.size w w' := by
  obtain ⟨W, hW⟩ : ∃ W, w.alloc (.cells #[.slice (some ⟨g, 0, none⟩) (m + 1) cap, .int .i64 lvl] 49) = W := ⟨_, rfl⟩
  have hBW : Below w.heap.size w W := by rw [← hW]; exact (Below.refl _ _).alloc (Nat.le_refl _) _
  have hWs : w.heap.size < W.heap.size := by rw [← hW]; simp
  have HWS : Hid (w.heap.size < W.heap.size) := hWs
  clear hWs
  have t0 : W.heap[w.heap.size]? = some (.cells #[.slice (some ⟨g, 0, none⟩) (m + 1) cap, .int .i64 lvl] 49) := by rw [← hW]; exact heap_alloc_new _ _
  have b0 : W.cell? ⟨w.heap.size, 0, none⟩ = _ := cell_of_row W w.heap.size 0 _ _ (0, 0) t0
  have b1 : W.cell? ⟨w.heap.size, 1, none⟩ = _ := cell_of_row W w.heap.size 1 _ _ (0, 0) t0
  simp only [Array.getElem?_toList, List.getElem?_toArray, List.getElem?_cons_zero, List.getElem?_cons_succ] at b0 b1
  have h2 := h.below hBW
  have c0 := h2.c0
  have c1 := h2.c1
  have c2 := h2.c2
  have hcx : W.cell? ⟨gm, t, none⟩ = some (.int .i64 (c t)) := by rw [h2.om.cellN t htn, hcs t htn]
  have hqx : W.cell? ⟨gq, t, none⟩ = some (.int .i64 (fn M t)) := h2.oq.cellN t htn
  have hcf : W.cell? ⟨g, 0, none⟩ = some (.int .i64 (f : Int)) := (World.cell?_of_block (hBW.block g hg)).trans hf
  have hct : W.cell? ⟨g, m, none⟩ = some (.int .i64 (t : Int)) := (World.cell?_of_block (hBW.block g hg)).trans ht
  have hti : (t : Int) < (n : Int) := by omega
  obtain ⟨bf, hbf⟩ : ∃ bf, befL (fn L) base f = bf := ⟨_, rfl⟩
  obtain ⟨af, haf⟩ : ∃ af, aftL (fn L) n base (n - (t + 1)) = af := ⟨_, rfl⟩
  have hbb := befL_bd hbd hlv f
  have hab := aftL_bd (n := n) hbd hlv (n - (t + 1))
  rw [hbf] at hbb
  rw [haf] at hab
  have HF : Hid (∀ q, Calls Tryz.prog 61 #[.slice (some ⟨g, 0, none⟩) (m + 1) cap] (W.drewN q) fun e w' => e = .returned (.int .i64 (f : Int)) ∧ w' = W.drewN q) := fun q => placesFirst g (m + 1) cap (f : Int) (W.drewN q) hcf (by omega)
  have HL : Hid (∀ q, Calls Tryz.prog 96 #[.slice (some ⟨g, 0, none⟩) (m + 1) cap] (W.drewN q) fun e w' => e = .returned (.int .i64 (t : Int)) ∧ w' = W.drewN q) := fun q => placesLast g m cap (t : Int) (W.drewN q) hct hm
  have HO : Hid (∀ q, Calls Tryz.prog 91 #[.int .i64 (c t)] (W.drewN q) fun e w' => e = .returned (.bool (opensB (c t))) ∧ w' = W.drewN q) := fun q => implOpens _ _
  have HB1 : Hid (∀ q, Calls Tryz.prog 97 #[.pointer (some ⟨T, 0, none⟩), .int .i64 (f : Int), .int .i64 (-1)] (W.drewN q) fun e w' => e = .returned (.int .i64 bf) ∧ w' = W.drewN q) := fun q => by rw [← hbf]; exact implBesideB f (W.drewN q) (h2.below (below_draws W q)) (by omega) (by omega)
  have HB2 : Hid (∀ q, Calls Tryz.prog 97 #[.pointer (some ⟨T, 0, none⟩), .int .i64 (t : Int), .int .i64 1] (W.drewN q) fun e w' => e = .returned (.int .i64 af) ∧ w' = W.drewN q) := fun q => by rw [← haf]; exact implBesideF t (W.drewN q) (h2.below (below_draws W q)) (by omega) htn
  have HS : Hid (∀ q z, 0 ≤ z → Calls Tryz.prog 66 #[.int .i64 z] (W.drewN q) fun e w' => e = .returned (.int .i64 (ownOf z)) ∧ w' = W.drewN q) := fun q z hz => implOwn z _ hz
  have HFIN : Hid (∀ q, Below w.heap.size w (W.drewN q)) := fun q => hBW.trans ((below_draws W q).mono hBW.size)
  have HA : Hid (sidA (fn L) base lvl f = ownOf (maxI lvl bf)) := by unfold Hid sidA; rw [hbf]
  obtain ⟨bh, hbh⟩ : ∃ bh, behF c (fn L) n mt base t = bh := ⟨_, rfl⟩
  have HBB : Hid (sidB c (fn L) n mt base lvl t = ownOf (maxI lvl bh)) := by unfold Hid sidB; rw [hbh]
  have hcase : (opensB (c t) = false ∧ bh = af) ∨ (opensB (c t) = true ∧ 0 ≤ fn M t ∧ bh = af) ∨ (opensB (c t) = true ∧ fn M t = -1 ∧ bh = base) := by
    unfold behF at hbh
    cases ho : opensB (c t) with
    | false => rw [ho, if_neg (by simp)] at hbh; exact .inl ⟨rfl, hbh.symm.trans haf⟩
    | true =>
      rcases hsm t htn ho with ⟨q1, q2⟩ | ⟨q1, q2⟩
      · rw [if_neg (by omega)] at hbh; exact .inr (.inl ⟨rfl, by omega, hbh.symm.trans haf⟩)
      · rw [ho, if_pos ⟨rfl, by omega⟩] at hbh; exact .inr (.inr ⟨rfl, q2, hbh.symm⟩)
  have HW : Hid _ := hW
  rw [HA.out, HBB.out]
  have HBW1 : Hid (W.cell? ⟨w.heap.size, 1, none⟩ = some (.int .i64 lvl)) := b1
  clear h h2 t0 hBW hcs hf ht hbf haf hbh hsm hW
  obtain ⟨hb1, hb2⟩ := hbb
  obtain ⟨ha1, ha2⟩ := hab
  obtain ⟨hd1, hd2⟩ := hbd
  clear hlv
  rcases hcase with ⟨ho, hbeh⟩ | ⟨ho, hz, hbeh⟩ | ⟨ho, hz, hbeh⟩
  · subst hbeh
    rw [ho] at HO
    clear ho
    rcases Classical.em (lvl < bf) with hA | hA
    all_goals rcases Classical.em (lvl < bh) with hC | hC
    all_goals first | rw [maxI_lt hA] | rw [maxI_ge hA]
    all_goals first | rw [maxI_lt hC] | rw [maxI_ge hC]
    all_goals
      go_enter Tryz.func63, Tryz.ntmps63
      go_upto_region 1 with fail
      rw [HW.out]
      go_quiet (first | (go_at_call 61; with_reducible exact Calls.quiet_of_same (HF.out _)) | (go_at_call 97; with_reducible exact Calls.quiet_of_same (HB1.out _)))
      go_wp2_with fail
      go_quiet (first | (go_at_call 96; with_reducible exact quiet_of_more (HL.out _)) | (go_at_call 91; with_reducible exact quiet_of_more (HO.out _)))
      go_wp2_with (first | (go_at_call 96; refine (HL.out _).mono ?_; rintro e w1 ⟨rfl, hw1⟩; rw [hw1]; clear hw1 w1) | (go_at_call 97; refine (HB2.out _).mono ?_; rintro e w1 ⟨rfl, hw1⟩; rw [hw1]; clear hw1 w1))
      generalize hV : World.drewN W _ = V
      have v1 : V.cell? ⟨w.heap.size, 1, none⟩ = some (.int .i64 lvl) := by rw [← hV]; exact HBW1.out
      have vlt : w.heap.size < V.heap.size := by rw [← hV]; exact HWS.out
      have e1 := Gr.cell v1 vlt
      have HBV : Hid (Below w.heap.size w V) := by rw [← hV]; exact HFIN.out _
      clear hV
      refine wp_region_grow (by kernel_rfl) (by kernel_rfl) ?_
      intro hneGr
      repeat (go_big_quiet_step (first | (go_at_call 66; with_reducible exact Calls.grow_of_same (implOwn _ _ h0)) | (go_at_call 66; with_reducible exact Calls.grow_of_same (implOwn _ _ hb1)) | (go_at_call 66; with_reducible exact Calls.grow_of_same (implOwn _ _ ha1)) | (go_at_call 66; with_reducible exact Calls.grow_of_same (implOwn _ _ hd1))))
      refine wpQuiet_nil ?_
      intro w5 hu5
      have b5 := gr_out hu5
      clear hu5
      go_wp2_with fail
      go_ret2
      exact ⟨rfl, bstep HBV.out b5⟩
  · subst hbeh
    rw [ho] at HO
    have hzd : decide (0 ≤ fn M t) = true := by simpa using hz
    clear ho
    rcases Classical.em (lvl < bf) with hA | hA
    all_goals rcases Classical.em (lvl < bh) with hC | hC
    all_goals first | rw [maxI_lt hA] | rw [maxI_ge hA]
    all_goals first | rw [maxI_lt hC] | rw [maxI_ge hC]
    all_goals
      go_enter Tryz.func63, Tryz.ntmps63
      go_upto_region 1 with fail
      rw [HW.out]
      go_quiet (first | (go_at_call 61; with_reducible exact Calls.quiet_of_same (HF.out _)) | (go_at_call 97; with_reducible exact Calls.quiet_of_same (HB1.out _)))
      go_wp2_with fail
      go_quiet (first | (go_at_call 96; with_reducible exact quiet_of_more (HL.out _)) | (go_at_call 91; with_reducible exact quiet_of_more (HO.out _)))
      go_wp2_with (first | (go_at_call 96; refine (HL.out _).mono ?_; rintro e w1 ⟨rfl, hw1⟩; rw [hw1]; clear hw1 w1) | (go_at_call 97; refine (HB2.out _).mono ?_; rintro e w1 ⟨rfl, hw1⟩; rw [hw1]; clear hw1 w1))
      generalize hV : World.drewN W _ = V
      have v1 : V.cell? ⟨w.heap.size, 1, none⟩ = some (.int .i64 lvl) := by rw [← hV]; exact HBW1.out
      have vlt : w.heap.size < V.heap.size := by rw [← hV]; exact HWS.out
      have e1 := Gr.cell v1 vlt
      have HBV : Hid (Below w.heap.size w V) := by rw [← hV]; exact HFIN.out _
      clear hV
      refine wp_region_grow (by kernel_rfl) (by kernel_rfl) ?_
      intro hneGr
      repeat (go_big_quiet_step (first | (go_at_call 66; with_reducible exact Calls.grow_of_same (implOwn _ _ h0)) | (go_at_call 66; with_reducible exact Calls.grow_of_same (implOwn _ _ hb1)) | (go_at_call 66; with_reducible exact Calls.grow_of_same (implOwn _ _ ha1)) | (go_at_call 66; with_reducible exact Calls.grow_of_same (implOwn _ _ hd1))))
      refine wpQuiet_nil ?_
      intro w5 hu5
      have b5 := gr_out hu5
      clear hu5
      go_wp2_with fail
      go_ret2
      exact ⟨rfl, bstep HBV.out b5⟩
  · subst hbeh
    rw [ho] at HO
    rw [hz] at hqx
    clear ho hz
    rcases Classical.em (lvl < bf) with hA | hA
    all_goals rcases Classical.em (lvl < bh) with hC | hC
    all_goals first | rw [maxI_lt hA] | rw [maxI_ge hA]
    all_goals first | rw [maxI_lt hC] | rw [maxI_ge hC]
    all_goals
      go_enter Tryz.func63, Tryz.ntmps63
      go_upto_region 1 with fail
      rw [HW.out]
      go_quiet (first | (go_at_call 61; with_reducible exact Calls.quiet_of_same (HF.out _)) | (go_at_call 97; with_reducible exact Calls.quiet_of_same (HB1.out _)))
      go_wp2_with fail
      go_quiet (first | (go_at_call 96; with_reducible exact quiet_of_more (HL.out _)) | (go_at_call 91; with_reducible exact quiet_of_more (HO.out _)))
      go_wp2_with fail
      generalize hV : World.drewN (World.drewN W _) _ = V
      have v1 : V.cell? ⟨w.heap.size, 1, none⟩ = some (.int .i64 lvl) := by rw [← hV]; exact HBW1.out
      have vlt : w.heap.size < V.heap.size := by rw [← hV]; exact HWS.out
      have e1 := Gr.cell v1 vlt
      have HBV : Hid (Below w.heap.size w V) := by rw [← hV]; exact (HFIN.out _).trans ((below_draws _ _).mono (HFIN.out _).size)
      clear hV
      refine wp_region_grow (by kernel_rfl) (by kernel_rfl) ?_
      intro hneGr
      repeat (go_big_quiet_step (first | (go_at_call 66; with_reducible exact Calls.grow_of_same (implOwn _ _ h0)) | (go_at_call 66; with_reducible exact Calls.grow_of_same (implOwn _ _ hb1)) | (go_at_call 66; with_reducible exact Calls.grow_of_same (implOwn _ _ ha1)) | (go_at_call 66; with_reducible exact Calls.grow_of_same (implOwn _ _ hd1))))
      refine wpQuiet_nil ?_
      intro w5 hu5
      have b5 := gr_out hu5
      clear hu5
      go_wp2_with fail
      go_ret2
      exact ⟨rfl, bstep HBV.out b5⟩
end Go.Proofs.YtgojdlbidjnmmaaGreat
