import Derived.BigQuiet
import Derived.Deep.QuietTactic
import Derived.BigRegion
import Derived.Deep.RegionWith
import Derived.Deep.RegionLaw
import Derived.Deep.AppendLies
import Derived.Test.YtgojdlbidjnmmabGreatPk11
import Derived.Test.YtgojdlbidjnmmabGreatPk1
import Derived.Test.YtgojdlbidjnmmabGreatPk5
namespace Go.Proofs.YtgojdlbidjnmmabGreat
open Go.ChangeShapes Go.WideShapes Go.ChangeAt Go.RowKit
set_option linter.unusedSimpArgs false
set_option linter.unusedVariables false

set_option maxRecDepth 10000 in
set_option maxHeartbeats 8000000 in
theorem implResolvePair (a d : Nat) {K gt g n cp : Nat} {bf o : Int} {td x : List Int} (w : World) (h : BT w K gt g n cp bf o td x) (hn : n ≤ 1000) (ha : a + 1 + d < n) (hcp : n ≤ cp) :
    Calls Tryz.prog 83 #[.pointer (some ⟨K, 0, none⟩), .int .i64 (a : Int), .int .i64 ((a + 1 + d : Nat) : Int)] w fun e w' => e = .returned (.tuple #[]) ∧ BT w' K gt g n cp bf o td (resP (fn td) n o bf x (a, a + 1 + d)) ∧ w.grownBy w' (some g) := by
  have c1 := h.c1
  have c3 := h.c3
  have HB : Hid (BT w K gt g n cp bf o td x) := h
  have HX : Hid (∀ j, j < d → w.cell? ⟨g, a + 1 + j, none⟩ = some (.int .i64 (fn x (a + 1 + j)))) := fun j hj => h.ox.cellN _ (by omega)
  have i1 : (a : Int) + 1 ≤ ((a + 1 + d : Nat) : Int) := by omega
  have i2 : ((a + 1 + d : Nat) : Int) ≤ (cp : Int) := by omega
  have i3 : ((a + 1 + d : Nat) : Int) < (n : Int) := by omega
  have i4 : ¬ (cp : Int) = (a : Int) + 1 := by omega
  have i5 : ((a + 1 + d : Nat) : Int) - ((a : Int) + 1) = (d : Int) := by omega
  have i6 : ((a + 1 + d : Nat) : Int) ≤ 1000 := by omega
  obtain ⟨s, hs⟩ : ∃ s, a + 1 + d = s := ⟨_, rfl⟩
  have HS : Hid (a + 1 + d = s) := hs
  rw [hs] at ha i1 i2 i3 i5 i6 ⊢
  have hsd : s - (a + 1) = d := by omega
  have HSD : Hid (s - (a + 1) = d) := hsd
  clear h hs
  go_enter Tryz.func83, Tryz.ntmps83
  go_wp2_with fail
  go_loop [6, 7, 21] (fun p q i => ∃ k : Nat, k ≤ d ∧ i = .int .i64 k ∧ p = .bool (ownIn (fn x) o a k) ∧ q = .bool (othIn (fn x) o a k)) (fun _ _ i => d - (intOf i).toNat)
  case atStart => exact ⟨0, Nat.zero_le _, rfl, rfl, rfl⟩
  case round =>
    obtain ⟨k, hk, rfl, rfl, rfl⟩ := hrel
    by_cases hlt : k < d
    · have hki : (k : Int) < (d : Int) := by omega
      have cx := HX.out k hlt
      obtain ⟨y, hy⟩ : ∃ y, fn x (a + 1 + k) = y := ⟨_, rfl⟩
      rw [hy] at cx
      obtain ⟨z, hz⟩ : ∃ z, like y = z := ⟨_, rfl⟩
      have HLK : Hid (∀ W, Calls Tryz.prog 111 #[.int .i64 y] W fun e w' => e = .returned (.int .i64 z) ∧ w' = W) := fun W => by rw [← hz]; exact implLike y W
      obtain ⟨P, hP⟩ : ∃ P, ownIn (fn x) o a k = P := ⟨_, rfl⟩
      obtain ⟨Q, hQ⟩ : ∃ Q, othIn (fn x) o a k = Q := ⟨_, rfl⟩
      obtain ⟨e1, he1⟩ : ∃ e1, (z == o) = e1 := ⟨_, rfl⟩
      obtain ⟨e0, he0⟩ : ∃ e0, (z == 0) = e0 := ⟨_, rfl⟩
      have HP2 : Hid (ownIn (fn x) o a (k + 1) = (P || e1)) := by unfold Hid; rw [← hP, ← he1, ← hz, ← hy]; rfl
      have HQ2 : Hid (othIn (fn x) o a (k + 1) = (Q || (!e0 && !e1))) := by unfold Hid; rw [← hQ, ← he1, ← he0, ← hz, ← hy]; rfl
      rw [hP, hQ]
      clear hP hQ hz hy
      cases P <;> cases Q <;> cases e1 <;> cases e0
      all_goals
        go_wp2_with (go_at_call 111; refine (HLK.out _).mono ?_; rintro e w1 ⟨rfl, hw1⟩; rw [hw1]; clear hw1 w1)
      all_goals
        refine ⟨⟨k + 1, by omega, by go_num, ?_, ?_⟩, by simp only [intOf]; omega⟩ <;> first | (rw [HP2.out]; rfl) | (rw [HQ2.out]; rfl) | (rw [HP2.out]; simp_all; done) | (rw [HQ2.out]; simp_all [bne]; done) | (exfalso; simp_all; done)
    · have e : k = d := by omega
      subst e
      obtain ⟨P, hP⟩ : ∃ P, ownIn (fn x) o a k = P := ⟨_, rfl⟩
      obtain ⟨Q, hQ⟩ : ∃ Q, othIn (fn x) o a k = Q := ⟨_, rfl⟩
      have HRES : Hid (resP (fn td) n o bf x (a, s) = if P = false ∧ Q = false then x else giveL (fn td) n (sidP (fn x) o bf a P) (giveL (fn td) n (sidP (fn x) o bf a P) x a) s) := by
        unfold Hid resP
        simp only [HSD.out, hP, hQ]
      rw [hP, hQ]
      have han : a < n := by omega
      clear hP hQ i4
      have HAH : Hid (∀ W, W = w → Calls Tryz.prog 112 #[.pointer (some ⟨K, 0, none⟩), .int .i64 (a : Int)] W fun e w' => e = .returned (.int .i64 (shA (fn x) bf a)) ∧ w' = W) := fun W hW => by rw [hW]; exact implAhead a w HB.out hn (by omega)
      cases P
      · cases Q
        · go_wp2_with fail
          (try simp only [Exit.inBlock, Exit.then]); refine bodyPost_ret (results_none rfl _ _ _) rfl ?_
          exact ⟨rfl, by rw [HRES.out, if_pos (by simp)]; exact HB.out, grownB_refl _ _⟩
        · obtain ⟨z, hz⟩ : ∃ z, shA (fn x) bf a = z := ⟨_, rfl⟩
          have HR2 : Hid (resP (fn td) n o bf x (a, s) = giveL (fn td) n z (giveL (fn td) n z x a) s) := by
            unfold Hid; rw [HRES.out, if_neg (by simp), ← hz]; rfl
          rw [hz] at HAH
          clear hz
          go_wp2_with (first | (go_at_call 112; refine (HAH.out _ rfl).mono ?_; rintro e w1 ⟨rfl, hw1⟩; rw [hw1]; clear hw1 w1))
          refine (implGive a z w HB.out hn han).mono ?_
          rintro e w2 ⟨rfl, bt2, gr2⟩
          go_wp2_with fail
          refine (implGive s z w2 bt2 hn ha).mono ?_
          rintro e w3 ⟨rfl, bt3, gr3⟩
          go_wp2_with fail
          go_end0
          exact ⟨rfl, by rw [HR2.out]; exact bt3, grownB_tr gr2 gr3⟩
      · have HR2 : Hid (resP (fn td) n o bf x (a, s) = giveL (fn td) n o (giveL (fn td) n o x a) s) := by
          unfold Hid; rw [HRES.out, if_neg (by simp)]; rfl
        go_wp2_with fail
        refine (implGive a o w HB.out hn han).mono ?_
        rintro e w2 ⟨rfl, bt2, gr2⟩
        go_wp2_with fail
        refine (implGive s o w2 bt2 hn ha).mono ?_
        rintro e w3 ⟨rfl, bt3, gr3⟩
        go_wp2_with fail
        go_end0
        exact ⟨rfl, by rw [HR2.out]; exact bt3, grownB_tr gr2 gr3⟩
end Go.Proofs.YtgojdlbidjnmmabGreat
namespace Go.Proofs.YtgojdlbidjnmmabGreat
open Go.ChangeShapes Go.WideShapes Go.ChangeAt Go.RowKit

/-- The worlds that have grown out of one: nothing old has turned. -/
def Gr (w : World) : Type := {w' : World // Below w.heap.size w w'}
/-- A region that draws its order, whose operations read and whose calls make memory of their own: one walk of the text's order serves every order. -/
theorem wp_region_grow {P : Program} {id : Nat} {Q : Exit → Act → World → Prop} {a : Act} {w : World} {l : List Oper} (hm : P.follows .mixedOrders = true) (hB : Region.lexB .any l.toArray = true)
    (h : Nonempty (Gr w) → wpQuiet P l.toArray (fun w' => ∃ u : Gr w, w' = u.1) (fun a' => ∀ w', (∃ u : Gr w, w' = u.1) → Q .normal a' w') l a) : (Code.region id l.toArray true).wp P Q a w :=
  wp_region_quiet (C := fun w' => ∃ u : Gr w, w' = u.1) hm hB ⟨⟨w.drewN 1, below_draws w 1⟩, rfl⟩ (by simpa using h ⟨⟨w, Below.refl _ _⟩⟩)
theorem Gr.cell {w : World} {b o : Nat} {v : Value} (h : w.cell? ⟨b, o, none⟩ = some v) (hb : b < w.heap.size) (u : Gr w) : u.1.cell? ⟨b, o, none⟩ = some v := (u.2.cell (p := ⟨b, o, none⟩) hb).trans h
theorem gr_out {w w' : World} (h : ∃ u : Gr w, w' = u.1) : Below w.heap.size w w' := by
  obtain ⟨u, rfl⟩ := h; exact u.2
/-- A callee's contract, met in a world that has grown. -/
theorem Calls.grow_of {P : Program} {f : FuncId} {args : Array Value} {w : World} {u : Gr w} {v : Value}
    (h : Calls P f args u.1 fun e w' => e = .returned v ∧ Below u.1.heap.size u.1 w') : Calls P f args u.1 fun e w'' => e = .returned v ∧ ∃ m : Gr w, w'' = m.1 :=
  h.mono fun _ w' ⟨he, hb⟩ => ⟨he, ⟨w', bstep u.2 hb⟩, rfl⟩
theorem Calls.grow_of_same {P : Program} {f : FuncId} {args : Array Value} {w : World} {u : Gr w} {v : Value}
    (h : Calls P f args u.1 fun e w' => e = .returned v ∧ w' = u.1) : Calls P f args u.1 fun e w'' => e = .returned v ∧ ∃ m : Gr w, w'' = m.1 :=
  h.mono fun _ _ ⟨he, hb⟩ => ⟨he, u, hb⟩
end Go.Proofs.YtgojdlbidjnmmabGreat
namespace Go.Proofs.YtgojdlbidjnmmabGreat
open Go.ChangeShapes Go.WideShapes Go.ChangeAt Go.RowKit
set_option linter.unusedSimpArgs false
set_option linter.unusedVariables false

theorem maxI_lt {a b : Int} (h : a < b) : maxI a b = b := by unfold maxI; rw [if_pos h]
theorem maxI_ge {a b : Int} (h : ¬ a < b) : maxI a b = a := by unfold maxI; rw [if_neg h]
set_option maxRecDepth 10000 in
set_option maxHeartbeats 8000000 in
theorem implSides (g m cap f t : Nat) (lvl : Int) {B T gm gq gl gc n : Nat} {base : Int} {cs M L cls : List Int} {c : Nat → Int} {mt : Nat → Nat} (w : World) (h : TT w B T gm gq gl gc n base cs M L cls) (hn80 : n ≤ 80) (h0 : 0 ≤ lvl) (h22 : lvl ≤ 22) (hf : w.cell? ⟨g, 0, none⟩ = some (.int .i64 (f : Int))) (ht : w.cell? ⟨g, m, none⟩ = some (.int .i64 (t : Int))) (hm : m ≤ 1048576) (hfn : f < n) (htn : t < n) (hg : g < w.heap.size) (hcs : ∀ j, j < n → fn cs j = c j) (hsm : SameMates c n mt M) (hbd : 0 ≤ base ∧ base ≤ 22) (hlv : ∀ j, fn L j ≤ 22) :
    Calls Tryz.prog 78 #[.pointer (some ⟨T, 0, none⟩), .agg #[.slice (some ⟨g, 0, none⟩) (m + 1) cap, .int .i64 lvl]] w fun e w' => e = .returned (.tuple #[.int .i64 (sidA (fn L) base lvl f), .int .i64 (sidB c (fn L) n mt base lvl t)]) ∧ Below w.heap.size w w' := by
  obtain ⟨W, hW⟩ : ∃ W, w.alloc (.cells #[.slice (some ⟨g, 0, none⟩) (m + 1) cap, .int .i64 lvl] 57) = W := ⟨_, rfl⟩
  have hBW : Below w.heap.size w W := by rw [← hW]; exact (Below.refl _ _).alloc (Nat.le_refl _) _
  have hWs : w.heap.size < W.heap.size := by rw [← hW]; simp
  have HWS : Hid (w.heap.size < W.heap.size) := hWs
  clear hWs
  have t0 : W.heap[w.heap.size]? = some (.cells #[.slice (some ⟨g, 0, none⟩) (m + 1) cap, .int .i64 lvl] 57) := by rw [← hW]; exact heap_alloc_new _ _
  have b0 : W.cell? ⟨w.heap.size, 0, none⟩ = _ := cell_of_row W w.heap.size 0 _ _ (0, 0) t0
  have b1 : W.cell? ⟨w.heap.size, 1, none⟩ = _ := cell_of_row W w.heap.size 1 _ _ (0, 0) t0
  simp only [Array.getElem?_toList, List.getElem?_toArray, List.getElem?_cons_zero, List.getElem?_cons_succ] at b0 b1
  have h2 := h.below hBW
  have c0 := h2.c0
  have c1 := h2.c1
  have c2 := h2.c2
  have hcx : W.cell? ⟨gm, t, none⟩ = some (.int .i64 (c t)) := by rw [h2.om.cellN t htn, hcs t htn]
  have hqx : W.cell? ⟨gq, t, none⟩ = some (.int .i64 (fn M t)) := h2.oq.cellN t htn
  have hcf : W.cell? ⟨g, 0, none⟩ = some (.int .i64 (f : Int)) := (World.cell?_of_block (hBW.block g hg)).trans hf
  have hct : W.cell? ⟨g, m, none⟩ = some (.int .i64 (t : Int)) := (World.cell?_of_block (hBW.block g hg)).trans ht
  have hti : (t : Int) < (n : Int) := by omega
  obtain ⟨bf, hbf⟩ : ∃ bf, befL (fn L) base f = bf := ⟨_, rfl⟩
  obtain ⟨af, haf⟩ : ∃ af, aftL (fn L) n base (n - (t + 1)) = af := ⟨_, rfl⟩
  have hbb := befL_bd hbd hlv f
  have hab := aftL_bd (n := n) hbd hlv (n - (t + 1))
  rw [hbf] at hbb
  rw [haf] at hab
  have HF : Hid (∀ q, Calls Tryz.prog 76 #[.slice (some ⟨g, 0, none⟩) (m + 1) cap] (W.drewN q) fun e w' => e = .returned (.int .i64 (f : Int)) ∧ w' = W.drewN q) := fun q => placesFirst g (m + 1) cap (f : Int) (W.drewN q) hcf (by omega)
  have HL : Hid (∀ q, Calls Tryz.prog 98 #[.slice (some ⟨g, 0, none⟩) (m + 1) cap] (W.drewN q) fun e w' => e = .returned (.int .i64 (t : Int)) ∧ w' = W.drewN q) := fun q => placesLast g m cap (t : Int) (W.drewN q) hct hm
  have HO : Hid (∀ q, Calls Tryz.prog 93 #[.int .i64 (c t)] (W.drewN q) fun e w' => e = .returned (.bool (opensB (c t))) ∧ w' = W.drewN q) := fun q => implOpens _ _
  have HB1 : Hid (∀ q, Calls Tryz.prog 99 #[.pointer (some ⟨T, 0, none⟩), .int .i64 (f : Int), .int .i64 (-1)] (W.drewN q) fun e w' => e = .returned (.int .i64 bf) ∧ w' = W.drewN q) := fun q => by rw [← hbf]; exact implBesideB f (W.drewN q) (h2.below (below_draws W q)) (by omega) (by omega)
  have HB2 : Hid (∀ q, Calls Tryz.prog 99 #[.pointer (some ⟨T, 0, none⟩), .int .i64 (t : Int), .int .i64 1] (W.drewN q) fun e w' => e = .returned (.int .i64 af) ∧ w' = W.drewN q) := fun q => by rw [← haf]; exact implBesideF t (W.drewN q) (h2.below (below_draws W q)) (by omega) htn
  have HS : Hid (∀ q z, 0 ≤ z → Calls Tryz.prog 81 #[.int .i64 z] (W.drewN q) fun e w' => e = .returned (.int .i64 (ownOf z)) ∧ w' = W.drewN q) := fun q z hz => implOwn z _ hz
  have HFIN : Hid (∀ q, Below w.heap.size w (W.drewN q)) := fun q => hBW.trans ((below_draws W q).mono hBW.size)
  have HA : Hid (sidA (fn L) base lvl f = ownOf (maxI lvl bf)) := by unfold Hid sidA; rw [hbf]
  obtain ⟨bh, hbh⟩ : ∃ bh, behF c (fn L) n mt base t = bh := ⟨_, rfl⟩
  have HBB : Hid (sidB c (fn L) n mt base lvl t = ownOf (maxI lvl bh)) := by unfold Hid sidB; rw [hbh]
  have hcase : (opensB (c t) = false ∧ bh = af) ∨ (opensB (c t) = true ∧ 0 ≤ fn M t ∧ bh = af) ∨ (opensB (c t) = true ∧ fn M t = -1 ∧ bh = base) := by
    unfold behF at hbh
    cases ho : opensB (c t) with
    | false => rw [ho, if_neg (by simp)] at hbh; exact .inl ⟨rfl, hbh.symm.trans haf⟩
    | true =>
      rcases hsm t htn ho with ⟨q1, q2⟩ | ⟨q1, q2⟩
      · rw [if_neg (by omega)] at hbh; exact .inr (.inl ⟨rfl, by omega, hbh.symm.trans haf⟩)
      · rw [ho, if_pos ⟨rfl, by omega⟩] at hbh; exact .inr (.inr ⟨rfl, q2, hbh.symm⟩)
  have HW : Hid _ := hW
  rw [HA.out, HBB.out]
  have HBW1 : Hid (W.cell? ⟨w.heap.size, 1, none⟩ = some (.int .i64 lvl)) := b1
  clear h h2 t0 hBW hcs hf ht hbf haf hbh hsm hW
  obtain ⟨hb1, hb2⟩ := hbb
  obtain ⟨ha1, ha2⟩ := hab
  obtain ⟨hd1, hd2⟩ := hbd
  clear hlv
  rcases hcase with ⟨ho, hbeh⟩ | ⟨ho, hz, hbeh⟩ | ⟨ho, hz, hbeh⟩
  · subst hbeh
    rw [ho] at HO
    clear ho
    rcases Classical.em (lvl < bf) with hA | hA
    all_goals rcases Classical.em (lvl < bh) with hC | hC
    all_goals first | rw [maxI_lt hA] | rw [maxI_ge hA]
    all_goals first | rw [maxI_lt hC] | rw [maxI_ge hC]
    all_goals
      go_enter Tryz.func78, Tryz.ntmps78
      go_upto_region 1 with fail
      rw [HW.out]
      go_quiet (first | (go_at_call 76; with_reducible exact Calls.quiet_of_same (HF.out _)) | (go_at_call 99; with_reducible exact Calls.quiet_of_same (HB1.out _)))
      go_wp2_with fail
      go_quiet (first | (go_at_call 98; with_reducible exact quiet_of_more (HL.out _)) | (go_at_call 93; with_reducible exact quiet_of_more (HO.out _)))
      go_wp2_with (first | (go_at_call 98; refine (HL.out _).mono ?_; rintro e w1 ⟨rfl, hw1⟩; rw [hw1]; clear hw1 w1) | (go_at_call 99; refine (HB2.out _).mono ?_; rintro e w1 ⟨rfl, hw1⟩; rw [hw1]; clear hw1 w1))
      generalize hV : World.drewN W _ = V
      have v1 : V.cell? ⟨w.heap.size, 1, none⟩ = some (.int .i64 lvl) := by rw [← hV]; exact HBW1.out
      have vlt : w.heap.size < V.heap.size := by rw [← hV]; exact HWS.out
      have e1 := Gr.cell v1 vlt
      have HBV : Hid (Below w.heap.size w V) := by rw [← hV]; exact HFIN.out _
      clear hV
      refine wp_region_grow (by kernel_rfl) (by kernel_rfl) ?_
      intro hneGr
      repeat (go_big_quiet_step (first | (go_at_call 81; with_reducible exact Calls.grow_of_same (implOwn _ _ h0)) | (go_at_call 81; with_reducible exact Calls.grow_of_same (implOwn _ _ hb1)) | (go_at_call 81; with_reducible exact Calls.grow_of_same (implOwn _ _ ha1)) | (go_at_call 81; with_reducible exact Calls.grow_of_same (implOwn _ _ hd1))))
      refine wpQuiet_nil ?_
      intro w5 hu5
      have b5 := gr_out hu5
      clear hu5
      go_wp2_with fail
      go_ret2
      exact ⟨rfl, bstep HBV.out b5⟩
  · subst hbeh
    rw [ho] at HO
    have hzd : decide (0 ≤ fn M t) = true := by simpa using hz
    clear ho
    rcases Classical.em (lvl < bf) with hA | hA
    all_goals rcases Classical.em (lvl < bh) with hC | hC
    all_goals first | rw [maxI_lt hA] | rw [maxI_ge hA]
    all_goals first | rw [maxI_lt hC] | rw [maxI_ge hC]
    all_goals
      go_enter Tryz.func78, Tryz.ntmps78
      go_upto_region 1 with fail
      rw [HW.out]
      go_quiet (first | (go_at_call 76; with_reducible exact Calls.quiet_of_same (HF.out _)) | (go_at_call 99; with_reducible exact Calls.quiet_of_same (HB1.out _)))
      go_wp2_with fail
      go_quiet (first | (go_at_call 98; with_reducible exact quiet_of_more (HL.out _)) | (go_at_call 93; with_reducible exact quiet_of_more (HO.out _)))
      go_wp2_with (first | (go_at_call 98; refine (HL.out _).mono ?_; rintro e w1 ⟨rfl, hw1⟩; rw [hw1]; clear hw1 w1) | (go_at_call 99; refine (HB2.out _).mono ?_; rintro e w1 ⟨rfl, hw1⟩; rw [hw1]; clear hw1 w1))
      generalize hV : World.drewN W _ = V
      have v1 : V.cell? ⟨w.heap.size, 1, none⟩ = some (.int .i64 lvl) := by rw [← hV]; exact HBW1.out
      have vlt : w.heap.size < V.heap.size := by rw [← hV]; exact HWS.out
      have e1 := Gr.cell v1 vlt
      have HBV : Hid (Below w.heap.size w V) := by rw [← hV]; exact HFIN.out _
      clear hV
      refine wp_region_grow (by kernel_rfl) (by kernel_rfl) ?_
      intro hneGr
      repeat (go_big_quiet_step (first | (go_at_call 81; with_reducible exact Calls.grow_of_same (implOwn _ _ h0)) | (go_at_call 81; with_reducible exact Calls.grow_of_same (implOwn _ _ hb1)) | (go_at_call 81; with_reducible exact Calls.grow_of_same (implOwn _ _ ha1)) | (go_at_call 81; with_reducible exact Calls.grow_of_same (implOwn _ _ hd1))))
      refine wpQuiet_nil ?_
      intro w5 hu5
      have b5 := gr_out hu5
      clear hu5
      go_wp2_with fail
      go_ret2
      exact ⟨rfl, bstep HBV.out b5⟩
  · subst hbeh
    rw [ho] at HO
    rw [hz] at hqx
    clear ho hz
    rcases Classical.em (lvl < bf) with hA | hA
    all_goals rcases Classical.em (lvl < bh) with hC | hC
    all_goals first | rw [maxI_lt hA] | rw [maxI_ge hA]
    all_goals first | rw [maxI_lt hC] | rw [maxI_ge hC]
    all_goals
      go_enter Tryz.func78, Tryz.ntmps78
      go_upto_region 1 with fail
      rw [HW.out]
      go_quiet (first | (go_at_call 76; with_reducible exact Calls.quiet_of_same (HF.out _)) | (go_at_call 99; with_reducible exact Calls.quiet_of_same (HB1.out _)))
      go_wp2_with fail
      go_quiet (first | (go_at_call 98; with_reducible exact quiet_of_more (HL.out _)) | (go_at_call 93; with_reducible exact quiet_of_more (HO.out _)))
      go_wp2_with fail
      generalize hV : World.drewN (World.drewN W _) _ = V
      have v1 : V.cell? ⟨w.heap.size, 1, none⟩ = some (.int .i64 lvl) := by rw [← hV]; exact HBW1.out
      have vlt : w.heap.size < V.heap.size := by rw [← hV]; exact HWS.out
      have e1 := Gr.cell v1 vlt
      have HBV : Hid (Below w.heap.size w V) := by rw [← hV]; exact (HFIN.out _).trans ((below_draws _ _).mono (HFIN.out _).size)
      clear hV
      refine wp_region_grow (by kernel_rfl) (by kernel_rfl) ?_
      intro hneGr
      repeat (go_big_quiet_step (first | (go_at_call 81; with_reducible exact Calls.grow_of_same (implOwn _ _ h0)) | (go_at_call 81; with_reducible exact Calls.grow_of_same (implOwn _ _ hb1)) | (go_at_call 81; with_reducible exact Calls.grow_of_same (implOwn _ _ ha1)) | (go_at_call 81; with_reducible exact Calls.grow_of_same (implOwn _ _ hd1))))
      refine wpQuiet_nil ?_
      intro w5 hu5
      have b5 := gr_out hu5
      clear hu5
      go_wp2_with fail
      go_ret2
      exact ⟨rfl, bstep HBV.out b5⟩
end Go.Proofs.YtgojdlbidjnmmabGreat
namespace Go.Proofs.YtgojdlbidjnmmabGreat
open Go.ChangeShapes Go.WideShapes Go.ChangeAt Go.RowKit
set_option linter.unusedSimpArgs false
set_option linter.unusedVariables false

/-- A slice of slices of numbers, each with what it holds, in a list of both. -/
structure RZ (w : World) (B : Nat) (v : Value) (zs : List (Value × List Int)) : Prop where
  own : OwnV 22 1 w B v zs.length (zs.map (·.1))
  row : ∀ q ∈ zs, OwnI w B q.1 q.2
  apv : ∀ q ∈ zs, Apart v q.1
  pw : zs.Pairwise (fun a b => Apart a.1 b.1)
section
variable {w w' : World} {B : Nat} {v : Value} {zs : List (Value × List Int)}
theorem RZ.kept (h : RZ w B v zs) (hb : ∀ b, (v.ownBlock = some b ∨ ∃ q ∈ zs, q.1.ownBlock = some b) → w'.heap[b]? = w.heap[b]?) : RZ w' B v zs :=
  ⟨h.own.kept (fun b hk => hb b (.inl hk)), fun q hq => (h.row q hq).kept (fun b hk => hb b (.inr ⟨q, hq, hk⟩)), h.apv, h.pw⟩
theorem RZ.below (h : RZ w B v zs) (hb : Below w.heap.size w w') : RZ w' B v zs :=
  ⟨h.own.below hb, fun q hq => (h.row q hq).below hb, h.apv, h.pw⟩
theorem RZ.mono {B' : Nat} (h : RZ w B v zs) (hB : B' ≤ B) : RZ w B' v zs :=
  ⟨h.own.mono hB, fun q hq => (h.row q hq).mono hB, h.apv, h.pw⟩
theorem RZ.nil (w : World) (B : Nat) : RZ w B (.slice none 0 0) [] := ⟨OwnV.nil _ _ _ _, by simp, by simp, by simp⟩
theorem RZ.empty (w : World) (B : Nat) (T : TypeId) (h : B ≤ w.heap.size) (hT : T = 22) : RZ (w.alloc (.cells #[] T)) B (.slice (some ⟨w.heap.size, 0, none⟩) 0 0) [] :=
  ⟨OwnV.empty _ _ _ _ _ h hT, by simp, by simp, by simp⟩
theorem RZ.lt (h : RZ w B v zs) : ∀ b, v.ownBlock = some b → B ≤ b ∧ b < w.heap.size := h.own.lt
theorem RZ.slc (h : RZ w B v zs) : ∃ a cap, v = .slice a zs.length cap := h.own.slc
theorem RZ.cellAt {g n cap : Nat} (h : RZ w B (.slice (some ⟨g, 0, none⟩) n cap) zs) (j : Nat) (hj : j < zs.length) : w.cell? ⟨g, j, none⟩ = some (zs[j]).1 := by
  have hown := h.own
  obtain ⟨a, c, e⟩ := hown.slc
  simp only [Value.slice.injEq] at e
  obtain ⟨rfl, rfl, rfl⟩ := e
  rw [hown.cell j (by omega)]
  simp [hj]
theorem RZ.rowAt (h : RZ w B v zs) (j : Nat) (hj : j < zs.length) : OwnI w B (zs[j]).1 (zs[j]).2 := h.row _ (List.getElem_mem hj)
/-- A new row, behind all others. -/
theorem RZ.snoc {w2 : World} {vx v' : Value} {x : List Int} {n : Nat} (hn : zs.length = n) (h : RZ w B v zs) (hB : B ≤ w.heap.size) (hb : Below w.heap.size w w2) (hx : OwnI w2 w.heap.size vx x) (ho : OwnV 22 1 w' B v' (n + 1) (zs.map (·.1) ++ [vx])) (hg : w2.grownBy w' v.ownBlock) (hv : v'.ownBlock = v.ownBlock ∨ ∃ H, v'.ownBlock = some H ∧ w2.heap.size ≤ H) :
    RZ w' B v' (zs ++ [(vx, x)]) := by
  subst hn
  have hsz := hb.size
  have hx' : OwnI w' B vx x := (hx.mono hB).kept (fun b hk => hg.block b (hx.lt b hk).2 (fun e => by have := (h.lt b e.symm).2; have := (hx.lt b hk).1; omega))
  refine ⟨by simpa using ho, fun q hq => ?_, fun q hq => ?_, ?_⟩
  · simp at hq
    rcases hq with hq | rfl
    · exact ((h.row q hq).below hb).kept (fun b hk => hg.block b (Nat.lt_of_lt_of_le ((h.row q hq).lt b hk).2 hsz) (fun e => h.apv q hq b e.symm hk))
    · exact hx'
  · simp at hq
    intro b h1 h2
    rcases hq with hq | rfl
    · rcases hv with e | ⟨H, e, hH⟩
      · exact h.apv q hq b (by rw [← e]; exact h1) h2
      · rw [e] at h1; simp at h1; have := ((h.row q hq).lt b h2).2; omega
    · rcases hv with e | ⟨H, e, hH⟩
      · rw [e] at h1; have := (h.lt b h1).2; have := (hx.lt b h2).1; omega
      · rw [e] at h1; simp at h1; have := (hx.lt b h2).2; omega
  · rw [List.pairwise_append]
    refine ⟨h.pw, by simp, fun a ha b hb => ?_⟩
    simp at hb; subst hb
    intro k h1 h2
    have := ((h.row a ha).lt k h1).2; have := (hx.lt k h2).1; omega
/-- The same rows and one more, in whatever order, under a head of its own. -/
theorem RZ.anew {w2 : World} {vx v' : Value} {x : List Int} {zs' : List (Value × List Int)} {n : Nat} (hn : zs'.length = n) (h : RZ w B v zs) (hB : B ≤ w.heap.size) (hb : Below w.heap.size w w2) (hx : OwnI w2 w.heap.size vx x) (hp : zs'.Perm ((vx, x) :: zs)) (hb2 : Below w2.heap.size w2 w') (ho : OwnV 22 1 w' w2.heap.size v' n (zs'.map (·.1))) : RZ w' B v' zs' := by
  subst hn
  have hsz := hb.size
  have hall : ∀ q ∈ zs', OwnI w2 B q.1 q.2 := fun q hq => by
    have := hp.mem_iff.1 hq
    simp at this
    rcases this with rfl | hq
    · exact hx.mono hB
    · exact (h.row q hq).below hb
  refine ⟨ho.mono (by omega), fun q hq => (hall q hq).below hb2, fun q hq => ?_, ?_⟩
  · intro b h1 h2
    have := (ho.lt b h1).1; have := ((hall q hq).lt b h2).2; omega
  · refine hp.symm.pairwise ?_ (fun h => h.symm)
    rw [List.pairwise_cons]
    refine ⟨fun a ha => ?_, h.pw⟩
    intro k h1 h2
    have := ((h.row a ha).lt k h2).2; have := (hx.lt k h1).1; omega
theorem vN_map {zs : List (Value × List Int)} {j : Nat} (h : j < zs.length) : vN (zs.map (·.1)) j = (zs[j]).1 := by simp [vN, h]
theorem rN_map {zs : List (Value × List Int)} {j : Nat} (h : j < zs.length) : rN (zs.map (·.2)) j = (zs[j]).2 := by simp [rN, h]
theorem RZ.rr (h : RZ w B v zs) : RR w B v (zs.map (·.1)) (zs.map (·.2)) := by
  refine ⟨by simp, by simpa using h.own, fun j hj => ?_, fun j hj => ?_, fun i j hij hj => ?_⟩
  · simp at hj; rw [vN_map hj, rN_map hj]; exact h.rowAt j hj
  · simp at hj; rw [vN_map hj]; exact h.apv _ (List.getElem_mem hj)
  · simp at hj; rw [vN_map hj, vN_map (by omega)]; exact (List.pairwise_iff_getElem.1 h.pw) i j (by omega) hj hij
end
/-- 'append(out, more...)' of slices, at a step of a region that draws its order. -/
theorem step_appV {ops : Array Oper} {o : Oper} {a : Act} {K : Act → World → Prop} {Q : Exit → Act → World → Prop} {E : Prop} {W : World} {v : Value} {xs ys : List Value} {B n m g off cap : Nat} (s x : Operand)
    (hgd : o.guard = none) (ho : o.op = .call { callee := .builtin .append, args := #[s, x], argTypes := #[44, 44] }) (hs : a.eval s = v) (hx : a.eval x = .slice (some ⟨g, off, none⟩) m cap)
    (hown : OwnV 22 1 W B v n xs) (hB : B ≤ W.heap.size) (hy : ys.length = m) (hsrc : ∀ j u, ys[j]? = some u → W.cell? ⟨g, off + j, none⟩ = some u) (h1 : ∀ u ∈ ys, u.oneCell' = true) (hl : n + m ≤ 1048576)
    (h : ∀ v' w', OwnV 22 1 w' B v' (n + m) (xs ++ ys) → W.grownBy w' v.ownBlock → (v'.ownBlock = v.ownBlock ∨ v'.ownBlock = some W.heap.size) → K (a.put o.dst v') w') :
    if Region.wanted o (yielded ops a.tmps) = true then Oper.wp Tryz.prog o a W K Q else E := by
  have hw : Region.wanted o (yielded ops a.tmps) = true := by simp [Region.wanted, hgd]
  rw [if_pos hw]
  obtain ⟨i0, hi, hz1, hz2⟩ : ∃ i, Tryz.prog.info? 22 = some i ∧ i.size = 1 ∧ i.bytes = 24 := by
    have := rowSS.1
    cases hh : Tryz.prog.info? 22 with
    | none => rw [hh] at this; cases this
    | some i => rw [hh] at this; simp at this; exact ⟨i, rfl, this⟩
  obtain ⟨z, hz0, hzc⟩ : ∃ z, i0.zero = some z ∧ z.cells.size = 1 := by
    have := rowSS.2
    rw [hi] at this
    cases hh : i0.zero with
    | none => simp [hh] at this
    | some z => simp [hh] at this; exact ⟨z, rfl, this⟩
  obtain ⟨v', w', hr, h2, h3, _, h5⟩ := run_append_own_at (P := Tryz.prog) W B 44 o.type 22 i0 z 1 24 Tryz.underlying44 hi hz0 hz1 hz2 hzc (by omega) v n xs hown ⟨g, off, none⟩ m cap ys (by omega) (fun j u hj => by
    have hadd : (⟨g, off, none⟩ : Addr).add j = ⟨g, off + j, none⟩ := by unfold Addr.add; split <;> simp_all
    rw [hadd]; exact hsrc j u hj) h1 (by unfold maxLen; omega) (by omega) hB
  unfold Oper.wp execOp
  simp only [ho, resolve, invoke, builtin, Sem.run_bind, Sem.run_pure, Result.andThen_ok, List.map_toArray, List.map_cons, List.map_nil, hs, hx, hr]
  exact h v' w' h2 h3 h5
/-- .. and nothing has turned that was there at U. -/
theorem step_appU {ops : Array Oper} {o : Oper} {a : Act} {K : Act → World → Prop} {Q : Exit → Act → World → Prop} {E : Prop} {U W : World} {v : Value} {xs ys : List Value} {n m g off cap : Nat} (s x : Operand)
    (hgd : o.guard = none) (ho : o.op = .call { callee := .builtin .append, args := #[s, x], argTypes := #[44, 44] }) (hs : a.eval s = v) (hx : a.eval x = .slice (some ⟨g, off, none⟩) m cap)
    (hW : Below U.heap.size U W) (hown : OwnV 22 1 W U.heap.size v n xs) (hy : ys.length = m) (hsrc : ∀ j u, ys[j]? = some u → W.cell? ⟨g, off + j, none⟩ = some u) (h1 : ∀ u ∈ ys, u.oneCell' = true) (hl : n + m ≤ 1048576)
    (h : ∀ v' w', OwnV 22 1 w' U.heap.size v' (n + m) (xs ++ ys) → Below U.heap.size U w' → W.grownBy w' v.ownBlock → (v'.ownBlock = v.ownBlock ∨ v'.ownBlock = some W.heap.size) → K (a.put o.dst v') w') :
    if Region.wanted o (yielded ops a.tmps) = true then Oper.wp Tryz.prog o a W K Q else E :=
  step_appV s x hgd ho hs hx hown hW.size hy hsrc h1 hl fun v' w' h2 h3 h4 => h v' w' h2 (hW.grown h3 hW.size (fun q hq => (hown.lt q hq).1)) h3 h4
theorem one_src {W : World} {b : Nat} {x : Value} (h : W.cell? ⟨b, 0, none⟩ = some x) : ∀ j u, [x][j]? = some u → W.cell? ⟨b, 0 + j, none⟩ = some u := by
  intro j u hj
  match j, hj with
  | 0, hj => simp at hj; subst hj; exact h
end Go.Proofs.YtgojdlbidjnmmabGreat
