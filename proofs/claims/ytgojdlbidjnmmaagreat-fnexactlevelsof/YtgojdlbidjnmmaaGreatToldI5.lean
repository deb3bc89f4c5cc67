import Derived.Test.YtgojdlbidjnmmaaGreatToldI4
import Derived.Test.YtgojdlbidjnmmaaGreatToldL
import Derived.Test.YtgojdlbidjnmmaaGreatAppendAt
import Derived.Test.YtgojdlbidjnmmaaGreatAlloc4
namespace Go.Proofs.YtgojdlbidjnmmaaGreat
open Go.ChangeShapes Go.WideShapes Go.ChangeAt Go.RowKit Go.Deep
set_option linter.unusedSimpArgs false
set_option linter.unusedVariables false

set_option maxHeartbeats 4000000 in
theorem tellLevels_no (v : Value) (l : List Int) (base : Int) (w : World) (hv : Arg w v l) (hl : l.length ≤ 4194304) (hno : (okF (fn l) l.length && baseB base) = false) :
    Calls Tryz.prog 31 #[v, .int .i64 base] w fun e w' => e = .returned (.pointer none) ∧ w' = w := by
  obtain ⟨q, hq⟩ : ∃ q, okF (fn l) l.length = q := ⟨_, rfl⟩
  rw [hq] at hno
  have HQ : Hid _ := hq
  clear hq
  cases q
  · clear hno
    go_enter Tryz.func31, Tryz.ntmps31
    go_wp2_with (go_at_call 56; refine (implOk v l _ hv hl).mono ?_; rintro e w1 ⟨rfl, rfl⟩; rw [HQ.out])
    go_ret
    exact ⟨rfl, rfl⟩
  · have h2 : ¬ (0 ≤ base ∧ base ≤ 1) := by simpa [baseB] using hno
    have h3 : (base != 0) = true := by simp; omega
    have h4 : (base != 1) = true := by simp; omega
    clear hno h2
    go_enter Tryz.func31, Tryz.ntmps31
    go_wp2_with (go_at_call 56; refine (implOk v l _ hv hl).mono ?_; rintro e w1 ⟨rfl, rfl⟩; rw [HQ.out])
    go_ret
    exact ⟨rfl, rfl⟩

/-- What is told of letters, with their levels. -/
structure TT (w : World) (B T gm gq gl gc n : Nat) (base : Int) (cs M lv cls : List Int) : Prop where
  ge : B ≤ T
  lt : T < w.heap.size
  c0 : w.cell? ⟨T, 0, none⟩ = some (.int .i64 base)
  c1 : w.cell? ⟨T, 1, none⟩ = some (.slice (some ⟨gm, 0, none⟩) n n)
  c2 : w.cell? ⟨T, 2, none⟩ = some (.slice (some ⟨gq, 0, none⟩) n n)
  c3 : w.cell? ⟨T, 3, none⟩ = some (.slice (some ⟨gl, 0, none⟩) n n)
  c4 : w.cell? ⟨T, 4, none⟩ = some (.slice (some ⟨gc, 0, none⟩) n n)
  om : OwnI w B (.slice (some ⟨gm, 0, none⟩) n n) cs
  oq : OwnI w B (.slice (some ⟨gq, 0, none⟩) n n) M
  ol : OwnI w B (.slice (some ⟨gl, 0, none⟩) n n) lv
  oc : OwnI w B (.slice (some ⟨gc, 0, none⟩) n n) cls
  nlc : gl ≠ gc
theorem TT.below {w w' : World} {B T gm gq gl gc n : Nat} {base : Int} {cs M lv cls : List Int} (h : TT w B T gm gq gl gc n base cs M lv cls) (hb : Below w.heap.size w w') : TT w' B T gm gq gl gc n base cs M lv cls := by
  have e : ∀ j, w'.cell? ⟨T, j, none⟩ = w.cell? ⟨T, j, none⟩ := fun j => World.cell?_of_block (hb.block T h.lt)
  exact ⟨h.ge, Nat.lt_of_lt_of_le h.lt hb.size, (e 0).trans h.c0, (e 1).trans h.c1, (e 2).trans h.c2, (e 3).trans h.c3, (e 4).trans h.c4, h.om.below hb, h.oq.below hb, h.ol.below hb, h.oc.below hb, h.nlc⟩
theorem TIn.tt {w : World} {B T S gl gc n gm gq : Nat} {base : Int} {cs M lv cls : List Int} {top : Option Addr} {s : TS} (h : TIn w B T S gm gq gl gc n base cs M lv cls top s) : TT w B T gm gq gl gc n base cs M lv cls :=
  ⟨h.ge, h.lt, h.c0, h.c1, h.c2, h.c3, h.c4, h.om, h.oq, h.ol, h.oc, h.nlc⟩
/-- What the list of mates says. -/
structure MatesIs (c : Nat → Int) (n : Nat) (mt : Nat → Nat) (M : List Int) : Prop where
  same : SameMates c n mt M
  clos : ClosTo c n M

theorem tin_made {w : World} {B T gm gq n : Nat} {base : Int} {cs M : List Int} (h80 : n ≤ 80) (hB : B ≤ T) (hT : T < w.heap.size) (c0 : w.cell? ⟨T, 0, none⟩ = some (.int .i64 base)) (c1 : w.cell? ⟨T, 1, none⟩ = some (.slice (some ⟨gm, 0, none⟩) n n)) (c2 : ∃ u, w.cell? ⟨T, 2, none⟩ = some u) (c3 : ∃ u, w.cell? ⟨T, 3, none⟩ = some u) (c4 : ∃ u, w.cell? ⟨T, 4, none⟩ = some u)
    (om : OwnI w B (.slice (some ⟨gm, 0, none⟩) n n) cs) (oq : OwnI w B (.slice (some ⟨gq, 0, none⟩) n n) M) (n1 : gm ≠ T) (n2 : gq ≠ T) :
    TIn ((((((((w.setCell ⟨T, 2, none⟩ (.slice (some ⟨gq, 0, none⟩) n n)).setCell ⟨T, 3, none⟩ (.slice (some ⟨w.heap.size, 0, none⟩) n n)).setCell ⟨T, 4, none⟩ (.slice (some ⟨w.heap.size + 1, 0, none⟩) n n)).alloc (.cells (madeCells #[.int .i64 0] n) 3)).alloc (.cells (madeCells #[.int .i64 0] n) 3)).alloc (.cells #[.int .i64 base, .int .i64 0, .bool false, .pointer none] 66)).alloc (.cells #[.pointer (some ⟨w.heap.size + 1 + 1, 0, none⟩), .int .i64 0, .int .i64 0] 68)))
      B T (w.heap.size + 3) gm gq w.heap.size (w.heap.size + 1) n base cs M (List.replicate n 0) (List.replicate n 0) (some ⟨w.heap.size + 1 + 1, 0, none⟩) ⟨[⟨base, 0, false⟩], 0, 0⟩ := by
  obtain ⟨u2, c2⟩ := c2
  obtain ⟨u3, c3⟩ := c3
  obtain ⟨u4, c4⟩ := c4
  obtain ⟨W, hW⟩ : ∃ W, ((w.setCell ⟨T, 2, none⟩ (.slice (some ⟨gq, 0, none⟩) n n)).setCell ⟨T, 3, none⟩ (.slice (some ⟨w.heap.size, 0, none⟩) n n)).setCell ⟨T, 4, none⟩ (.slice (some ⟨w.heap.size + 1, 0, none⟩) n n) = W := ⟨_, rfl⟩
  have hs : W.heap.size = w.heap.size := by rw [← hW]; simp only [World.size_setCell]
  have d0 : W.cell? ⟨T, 0, none⟩ = some (.int .i64 base) := by rw [← hW]; exact setI_diff (by omega) (setI_diff (by omega) (setI_diff (by omega) c0))
  have d1 : W.cell? ⟨T, 1, none⟩ = some (.slice (some ⟨gm, 0, none⟩) n n) := by rw [← hW]; exact setI_diff (by omega) (setI_diff (by omega) (setI_diff (by omega) c1))
  have d2 : W.cell? ⟨T, 2, none⟩ = some (.slice (some ⟨gq, 0, none⟩) n n) := by rw [← hW]; exact setI_diff (by omega) (setI_diff (by omega) (setI_same c2))
  have d3 : W.cell? ⟨T, 3, none⟩ = some (.slice (some ⟨w.heap.size, 0, none⟩) n n) := by rw [← hW]; exact setI_diff (by omega) (setI_same (setI_diff (by omega) c3))
  have d4 : W.cell? ⟨T, 4, none⟩ = some (.slice (some ⟨w.heap.size + 1, 0, none⟩) n n) := by rw [← hW]; exact setI_same (setI_diff (by omega) (setI_diff (by omega) c4))
  have hkeep : ∀ g, g ≠ T → W.heap[g]? = w.heap[g]? := fun g hg => by
    rw [← hW]
    exact (heap_setCell_other _ ⟨T, 4, none⟩ g _ hg).trans ((heap_setCell_other _ ⟨T, 3, none⟩ g _ hg).trans (heap_setCell_other _ ⟨T, 2, none⟩ g _ hg))
  have om2 : OwnI W B (.slice (some ⟨gm, 0, none⟩) n n) cs := om.kept (fun k hk => by simp [Value.ownBlock] at hk; subst hk; exact hkeep _ n1)
  have oq2 : OwnI W B (.slice (some ⟨gq, 0, none⟩) n n) M := oq.kept (fun k hk => by simp [Value.ownBlock] at hk; subst hk; exact hkeep _ n2)
  rw [hW, ← hs]
  rw [← hs] at d3 d4 hT
  have hgm := (om2.lt gm rfl).2
  have hgq := (oq2.lt gq rfl).2
  obtain ⟨b0, b1, b2, b3⟩ := alloc4 W (.cells (madeCells #[.int .i64 0] n) 3) (.cells (madeCells #[.int .i64 0] n) 3) (.cells #[.int .i64 base, .int .i64 0, .bool false, .pointer none] 66) (.cells #[.pointer (some ⟨W.heap.size + 1 + 1, 0, none⟩), .int .i64 0, .int .i64 0] 68)
  have hbl : Below W.heap.size W ((((W.alloc (.cells (madeCells #[.int .i64 0] n) 3)).alloc (.cells (madeCells #[.int .i64 0] n) 3)).alloc (.cells #[.int .i64 base, .int .i64 0, .bool false, .pointer none] 66)).alloc (.cells #[.pointer (some ⟨W.heap.size + 1 + 1, 0, none⟩), .int .i64 0, .int .i64 0] 68)) :=
    ((((Below.refl _ W).alloc (Nat.le_refl _) _).alloc (by simp) _).alloc (by simp; omega) _).alloc (by simp; omega) _
  obtain ⟨V, hV⟩ : ∃ V, ((((W.alloc (.cells (madeCells #[.int .i64 0] n) 3)).alloc (.cells (madeCells #[.int .i64 0] n) 3)).alloc (.cells #[.int .i64 base, .int .i64 0, .bool false, .pointer none] 66)).alloc (.cells #[.pointer (some ⟨W.heap.size + 1 + 1, 0, none⟩), .int .i64 0, .int .i64 0] 68)) = V := ⟨_, rfl⟩
  have hVs : V.heap.size = W.heap.size + 4 := by rw [← hV]; simp
  rw [hV] at b0 b1 b2 b3 hbl ⊢
  have hcT : ∀ j, V.cell? ⟨T, j, none⟩ = W.cell? ⟨T, j, none⟩ := fun j => World.cell?_of_block (hbl.block T hT)
  have cS : ∀ j, V.cell? ⟨W.heap.size + 3, j, none⟩ = _ := fun j => cell_of_row V _ j _ _ (0, 0) b3
  have cN : ∀ j, V.cell? ⟨W.heap.size + 2, j, none⟩ = _ := fun j => cell_of_row V _ j _ _ (0, 0) b2
  have hBW : B ≤ W.heap.size := by omega
  have hm : n ≤ maxLen := by unfold maxLen; omega
  refine ⟨hB, by omega, (hcT 0).trans d0, (hcT 1).trans d1, (hcT 2).trans d2, (hcT 3).trans d3, (hcT 4).trans d4, om2.below hbl, oq2.below hbl, ⟨n1, by omega, by omega, by omega⟩, ⟨n2, by omega, by omega, by omega⟩, made_blk hBW b0 hm, made_blk (by omega) b1 hm, by omega, by omega, by omega, by omega, by omega, by omega, by omega,
    ⟨by omega, .inl rfl, fun b hb => ?_, by rw [cS]; rfl, by rw [cS]; rfl, by rw [cS]; rfl, fun j => frozen_of_row V _ j _ _ b3, ?_⟩⟩
  · rcases hb with rfl | rfl | rfl | rfl <;> omega
  · exact ⟨W.heap.size + 2, none, rfl, by omega, by omega, by rw [cN]; rfl, by rw [cN]; rfl, by rw [cN]; rfl, by rw [cN]; rfl, rfl⟩

set_option maxHeartbeats 8000000 in
theorem tellLevels_yes (v : Value) (l : List Int) (mt : Nat → Nat) (base : Int) (n : Nat) (w : World) (a : Option Addr) (cap : Nat) (hn : l.length = n) (hva : v = .slice a n cap) (hv : Arg w v l) (hok : Hid (okF (fn l) l.length = true)) (h80 : n ≤ 80) (hmt : Hid (MateFn (cl l) n mt)) (hb01 : 0 ≤ base ∧ base ≤ 1) :
    Calls Tryz.prog 31 #[v, .int .i64 base] w fun e w' => (∃ T gm gq gl gc M, e = .returned (.pointer (some ⟨T, 0, none⟩)) ∧ TT w' w.heap.size T gm gq gl gc n base (clsL l) M (lvL (cl l) (fsF (cl l) mt) base n) (clL (cl l) (fsF (cl l) mt) base n) ∧ MatesIs (cl l) n mt M) ∧ Below w.heap.size w w' := by
  subst hva
  have hmk := fun w => run_make_row' (P := Tryz.prog) 23 3 (.int .i64 0) 8 Tryz.underlying23 infoI rfl .i64 .i64 n (by omega) (by omega) w
  have HN : Hid _ := hn
  have hb3 : ((base != 0) = false) ∨ ((base != 0) = true ∧ (base != 1) = false) := by
    by_cases q : base = 0
    · exact .inl (by simpa using q)
    · exact .inr ⟨by simpa using q, by simp; omega⟩
  have hcl : (clsL l).length = n := by rw [clsL_len, hn]
  have HCL : Hid _ := hcl
  have hcc : Hid (∀ j, j < n → fn (clsL l) j = cl l j) := fun j hj => fn_clsL (by omega)
  have hlen : l.length ≤ 1048576 := by omega
  have hlen4 : l.length ≤ 4194304 := by omega
  have HV : Hid _ := hv
  clear hn hcl hv
  rcases hb3 with hb3 | ⟨hb3, hb4⟩
  all_goals
    go_enter Tryz.func31, Tryz.ntmps31
    go_wp2_with (first | (go_at_call 56; refine (implOk _ l _ HV.out hlen4).mono ?_; rintro e w1 ⟨rfl, rfl⟩; rw [hok.out]) | (go_at_call 57; refine (classes_any _ l _ HV.out hlen).mono ?_; rintro e w2 ⟨⟨gm, rfl, om⟩, b2⟩; rw [HN.out]; rw [HN.out] at om; have OM : Hid (OwnI w2 w1.heap.size (.slice (some ⟨gm, 0, none⟩) n n) (clsL l)) := om; clear om))
    have hgm := OM.out.lt gm rfl
    have t0 : (w2.alloc (.cells #[.int .i64 base, .slice (some ⟨gm, 0, none⟩) n n, .slice none 0 0, .slice none 0 0, .slice none 0 0] 44)).heap[w2.heap.size]? = some (.cells #[.int .i64 base, .slice (some ⟨gm, 0, none⟩) n n, .slice none 0 0, .slice none 0 0, .slice none 0 0] 44) := heap_alloc_new _ _
    have b3 : Below w1.heap.size w1 (w2.alloc (.cells #[.int .i64 base, .slice (some ⟨gm, 0, none⟩) n n, .slice none 0 0, .slice none 0 0, .slice none 0 0] 44)) := b2.alloc b2.size _
    have o3 : OwnI (w2.alloc (.cells #[.int .i64 base, .slice (some ⟨gm, 0, none⟩) n n, .slice none 0 0, .slice none 0 0, .slice none 0 0] 44)) w1.heap.size (.slice (some ⟨gm, 0, none⟩) n n) (clsL l) := OM.out.below ((Below.refl _ _).alloc (Nat.le_refl _) _)
    have hs3 : (w2.alloc (.cells #[.int .i64 base, .slice (some ⟨gm, 0, none⟩) n n, .slice none 0 0, .slice none 0 0, .slice none 0 0] 44)).heap.size = w2.heap.size + 1 := by simp
    obtain ⟨T, hT⟩ : ∃ T, w2.heap.size = T := ⟨_, rfl⟩
    rw [hT] at t0 hs3 hgm
    rw [hT]
    obtain ⟨w3, hw3⟩ : ∃ w3, (w2.alloc (.cells #[.int .i64 base, .slice (some ⟨gm, 0, none⟩) n n, .slice none 0 0, .slice none 0 0, .slice none 0 0] 44)) = w3 := ⟨_, rfl⟩
    rw [hw3] at t0 b3 o3 hs3
    rw [hw3]
    have hTw : w1.heap.size ≤ T := by rw [← hT]; exact b2.size
    have B3 : Hid _ := b3
    have O3 : Hid (OwnI w3 w1.heap.size (.slice (some ⟨gm, 0, none⟩) n n) (clsL l)) := o3
    have T0 : Hid (w3.heap[T]? = some (.cells #[.int .i64 base, .slice (some ⟨gm, 0, none⟩) n n, .slice none 0 0, .slice none 0 0, .slice none 0 0] 44)) := t0
    clear hw3 hT t0 b3 o3 b2 OM
    refine (mates_rowC gm 0 n n (clsL l) (cl l) _ HCL.out (by omega) (by omega) (fun j hj => by have := HCL.out; rw [Nat.zero_add]; exact O3.out.cellN j (by omega)) hcc).mono ?_
    rintro e w4 ⟨⟨gq, M, rfl, oq, hM, hCl⟩, b4⟩
    have hgq := oq.lt gq rfl
    have hsz4 := b4.size
    have OQ : Hid (OwnI w4 w1.heap.size (.slice (some ⟨gq, 0, none⟩) n n) M) := oq.mono (by omega)
    have O4 : Hid (OwnI w4 w1.heap.size (.slice (some ⟨gm, 0, none⟩) n n) (clsL l)) := O3.out.below b4
    have T4 : Hid (w4.heap[T]? = some (.cells #[.int .i64 base, .slice (some ⟨gm, 0, none⟩) n n, .slice none 0 0, .slice none 0 0, .slice none 0 0] 44)) := (b4.block T (by omega)).trans T0.out
    have B4 : Hid (Below w1.heap.size w1 w4) := bstep B3.out b4
    have q0 : w4.cell? ⟨T, 0, none⟩ = _ := cell_of_row w4 T 0 _ _ (0, 0) T4.out
    have q1 : w4.cell? ⟨T, 1, none⟩ = _ := cell_of_row w4 T 1 _ _ (0, 0) T4.out
    have q2 : w4.cell? ⟨T, 2, none⟩ = _ := cell_of_row w4 T 2 _ _ (0, 0) T4.out
    have q3 : w4.cell? ⟨T, 3, none⟩ = _ := cell_of_row w4 T 3 _ _ (0, 0) T4.out
    have q4 : w4.cell? ⟨T, 4, none⟩ = _ := cell_of_row w4 T 4 _ _ (0, 0) T4.out
    simp only [Array.getElem?_toList, List.getElem?_toArray, List.getElem?_cons_zero, List.getElem?_cons_succ] at q0 q1 q2 q3 q4
    have f2 := frozen_of_row w4 T 2 _ _ T4.out
    have f3 := frozen_of_row w4 T 3 _ _ T4.out
    have f4 := frozen_of_row w4 T 4 _ _ T4.out
    have hTl : T < w4.heap.size := by omega
    have fin := tin_made (base := base) h80 hTw hTl q0 q1 ⟨_, q2⟩ ⟨_, q3⟩ ⟨_, q4⟩ O4.out OQ.out (by omega) (by omega)
    obtain ⟨w5, hw5⟩ : ∃ w5, (((((((w4.setCell ⟨T, 2, none⟩ (.slice (some ⟨gq, 0, none⟩) n n)).setCell ⟨T, 3, none⟩ (.slice (some ⟨w4.heap.size, 0, none⟩) n n)).setCell ⟨T, 4, none⟩ (.slice (some ⟨w4.heap.size + 1, 0, none⟩) n n)).alloc (.cells (madeCells #[.int .i64 0] n) 3)).alloc (.cells (madeCells #[.int .i64 0] n) 3)).alloc (.cells #[.int .i64 base, .int .i64 0, .bool false, .pointer none] 66)).alloc (.cells #[.pointer (some ⟨w4.heap.size + 1 + 1, 0, none⟩), .int .i64 0, .int .i64 0] 68)) = w5 := ⟨_, rfl⟩
    have b5 : Below w1.heap.size w1 w5 := by
      rw [← hw5]
      exact ((((((B4.out.setCell (p := ⟨T, 2, none⟩) hTw _).setCell (p := ⟨T, 3, none⟩) hTw _).setCell (p := ⟨T, 4, none⟩) hTw _).alloc (by simp only [World.size_setCell]; omega) _).alloc (by simp; omega) _).alloc (by simp; omega) _).alloc (by simp; omega) _
    have B5 : Hid (Below w1.heap.size w1 w5) := b5
    obtain ⟨gl, hgl⟩ : ∃ gl, w4.heap.size = gl := ⟨_, rfl⟩
    rw [hw5] at fin
    have FIN : Hid (TIn w5 w1.heap.size T (gl + 3) gm gq gl (gl + 1) n base (clsL l) M (List.replicate n 0) (List.replicate n 0) (some ⟨gl + 1 + 1, 0, none⟩) ⟨[⟨base, 0, false⟩], 0, 0⟩) := by rw [← hgl]; exact fin
    have HW5 : Hid _ := hw5
    have HGL : Hid _ := hgl
    clear hw5 fin b5 hgl
    have hMI : Hid (MatesIs (cl l) n mt M) := ⟨same_mates hmt.out hM.out, hCl.out⟩
    clear hgm hgq oq b4
    go_wp2_with fail
    rw [HW5.out, HGL.out, show gl + 1 + 1 + 1 = gl + 3 from rfl]
    clear hmk f2 f3 f4 q0 q1 q2 q3 q4
    go_loopw [51] (fun q wr => ∃ (i : Nat) (top : Option Addr) (lv cls : List Int), i ≤ n ∧ q = .int .i64 i ∧ Hid (TIn wr w1.heap.size T (gl + 3) gm gq gl (gl + 1) n base (clsL l) M lv cls top (told (cl l) (fsF (cl l) mt) base i)) ∧ Hid (toldTo (cl l) (fsF (cl l) mt) base n i lv cls) ∧ Hid (Below w1.heap.size w1 wr)) (fun q _ => n - (intOf q).toNat)
    case atStart => exact ⟨0, _, _, _, Nat.zero_le _, rfl, FIN.out, told_zero _ _ _ _, B5.out⟩
    case round =>
      obtain ⟨i, top, lv, cls, hi, rfl, hT, hTo, hB⟩ := hrel
      by_cases hlt : i < n
      · have hi1 : (i : Int) < (n : Int) := by omega
        go_wp2_with fail
        refine (implLetter (cl l) mt i _ hlt (by omega) HCL.out hT.out.oq.len hb01.1 (Nat.le_trans hB.out.size (Nat.le_refl _)) hcc hmt hMI.out.same (good_told _ _ hb01 i) hT.out).mono ?_
        rintro e w6 ⟨rfl, ⟨top6, h6⟩, b6⟩
        have H6 : Hid (TIn w6 w1.heap.size T (gl + 3) gm gq gl (gl + 1) n base (clsL l) M (lvSet (cl l i) (told (cl l) (fsF (cl l) mt) base i) (lv.set i (-1)) i) (clSet (cl l i) (told (cl l) (fsF (cl l) mt) base i) cls i) top6 (told (cl l) (fsF (cl l) mt) base (i + 1))) := h6
        have B6 : Hid (Below w1.heap.size w1 w6) := hB.out.trans b6
        clear h6 b6
        go_wp2_with fail
        go_roundw
        case rel => exact ⟨i + 1, top6, _, _, by omega, by go_num, H6, told_step hTo.out hlt, B6⟩
        case measure => simp only [intOf]; omega
      · have e : i = n := by omega
        subst e
        go_wp2_with fail
        go_ret
        obtain ⟨e1, e2⟩ := told_end hTo.out
        have h7 := hT.out.tt
        rw [e1, e2] at h7
        exact ⟨⟨T, gm, gq, gl, gl + 1, M, rfl, h7, hMI.out⟩, hB.out⟩

end Go.Proofs.YtgojdlbidjnmmaaGreat
