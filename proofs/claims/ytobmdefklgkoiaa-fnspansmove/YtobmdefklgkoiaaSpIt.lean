import Derived.Test.YtobmdefklgkoiaaLkI
import Derived.Test.YtobmdefklgkoiaaSpCol
import Derived.RangeFuncBox
import Derived.RangeFuncNested
import Derived.RangeFuncBound
import Derived.RangeFuncCalls
import Derived.RangeFuncLeaves
import Derived.Shelf.Abstract
import Derived.Shelf.RegionOpen
import Derived.WalkKit
import Derived.OwnWalkIn
import Derived.TacticsInMore
import Derived.LoopNIn
import Derived.LoopIn
import Derived.Stop.RegionWithIn
import Derived.BigRegionIn
namespace Go.Proofs.Ytobmdefklgkoiaa
open Go.ChangeShapes Go.WideShapes Go.ChangeAt Go.RowKit Go.Shelf
set_option linter.unusedSimpArgs false
set_option linter.unusedVariables false

theorem lookBase_in (F : Fence) (n : Nat) (h : F.fn 49) (hro : F.round = none) (w : World) :
    CallsIn F n Try.prog 49 #[] w fun e w' => e = .returned (.agg #[.int .i64 10, .int .i64 0]) ∧ w' = w.alloc (.cells #[.int .i64 10, .int .i64 0] 71) := by
  refine callsIn_of_wp Try.func49 rfl h ?_ hro
  simp only [Try.ntmps49, List.size_toArray, List.length_cons, List.length_nil, Nat.reduceAdd, Nat.reduceSub, Array.replicate_succ, Array.replicate_zero, List.push_toArray, List.append_toArray, List.nil_append, List.cons_append]
  gi_wp2
  refine bodyPost_ret (ret_look rfl _ _ w.heap.size 10 0 _ rfl (World.alloc_heap_new w _)) rfl ⟨rfl, rfl⟩

theorem uponIn_yield {F : Fence} {n : Nat} {P : Program} {o : Oper} {a : Act} {next : Act → World → Prop} {Q : Exit → Act → World → Prop} {l : Nat} {args : Array Value} {W : World} {S : Bool → World → Prop} (h1 : 1 ≤ n)
    (h : YieldAt F (n - 1) P l args W fun e W' => ∃ b, e = .returned (.bool b) ∧ S b W') (hS : ∀ b W', S b W' → next (a.put o.dst (.bool b)) W') : o.uponIn F n P a next Q ((Instr.yield l args).run P W) := by
  obtain ⟨fn, tmps, assign, body, hy, hR⟩ := h
  rw [hy, Oper.uponIn_round]
  refine ⟨fun _ => h1, hR.mono ?_⟩
  rintro e W' ⟨b, rfl, hb⟩
  exact hS b W' hb
theorem spQ_app (b : Nat) (l q : Runs) : spQ b (l ++ q) = spQ b l ++ spQ (b + cntR l) q := by
  induction l generalizing b with
  | nil => simp [spQ, cntR]
  | cons x r ih =>
    obtain ⟨⟨s, m⟩, n⟩ := x
    simp only [List.cons_append, spQ, cntR, ih, List.append_assoc, Nat.add_assoc]
theorem abides_none {α : Type} {B : Nat} {J : List α → World → Prop} (h : AbidesFrom B J) {s : List α} {A C : World} (hj : J s A) (hg : A.grownBy C none) : J s C := h s A C none hj hg (fun r e => by cases e)
theorem no_about {F : Fence} {p : Prop} : ((∀ f : FuncId, (none : Option FuncId) = some f → F.fn f) ∧ p) = p := by simp
theorem wide_fn (f : FuncId) : Fence.wide.fn f := trivial
theorem grown_two (w : World) (o1 o2 : Obj) : w.grownBy ((w.alloc o1).alloc o2).drew none :=
  ⟨rfl, rfl, rfl, by simp; omega, fun k hk _ => ((Below.heap_alloc (w.alloc o1) o2 k (by simp; omega)).trans (Below.heap_alloc w o1 k hk))⟩

theorem abides_mono {α : Type} {B C : Nat} {J : List α → World → Prop} (hBC : B ≤ C) (h : AbidesFrom B J) : AbidesFrom C J := fun s A D row hj hg hr => h s A D row hj hg (fun r e => ⟨Nat.le_trans hBC (hr r e).1, (hr r e).2⟩)
theorem below_none {n₀ : Nat} {A C : World} (h : A.grownBy C none) (hn : n₀ ≤ A.heap.size) : Below n₀ A C :=
  ⟨h.os, h.tape, h.output, h.size, fun k hk => h.block k (Nat.lt_of_lt_of_le hk hn) (by simp)⟩
theorem below_to_none {A C : World} (h : Below A.heap.size A C) : A.grownBy C none := ⟨h.os, h.tape, h.output, h.size, fun q hq _ => h.block q hq⟩
theorem pre_of {x : List QT} {R pre rest : Runs} (hx : R = pre ++ rest) (h : x = spQ 0 pre) : x <+: spQ 0 R := by
  rw [hx, spQ_app, h]; exact List.prefix_append _ _
theorem spQ_len (b : Nat) (R : Runs) : (spQ b R).length ≤ R.length := by
  induction R generalizing b with
  | nil => exact Nat.le_refl _
  | cons x r ih =>
    obtain ⟨⟨s, m⟩, n⟩ := x
    have := ih (b + n)
    simp only [spQ, List.length_append, List.length_cons]
    split <;> simp <;> omega

set_option maxRecDepth 100000 in
set_option maxHeartbeats 4000000 in
theorem spans1_in (n : Nat) (hn : 1 ≤ n) (l Bn n₀ g cap : Nat) (R : Runs) (hR : R.length ≤ 1000 ∧ cntR R ≤ 1000000) (J Jx : List QT → World → Prop)
    (hY : ∀ pre x W, J pre W → pre.length < R.length → YieldAt Fence.wide (n - 1) Try.prog l (encQ x) W fun e W' =>
      (e = .returned (.bool true) ∧ J (pre ++ [x]) W' ∧ Below n₀ W W') ∨ (e = .returned (.bool false) ∧ Jx (pre ++ [x]) W'))
    (W : World) (hn₀ : n₀ ≤ W.heap.size) (hJ : AbidesFrom W.heap.size J) (hBn : W.cell? ⟨Bn, 0, none⟩ = some (.slice (some ⟨g, 0, none⟩) R.length cap)) (hg0 : g < n₀) (hc : ∀ j, j < R.length * 3 → W.cell? ⟨g, j, none⟩ = some (.int .i64 (fn (flatL R) j))) (h0 : J [] W) :
    CallsIn Fence.wide n Try.prog 50 #[.func (.yield l) #[] #[], .pointer (some ⟨Bn, 0, none⟩)] W fun e W' => (∃ v, e = .returned v) ∧
      ((∃ ys, ys = spQ 0 R ∧ J ys W') ∨ (∃ pre, pre <+: spQ 0 R ∧ Jx pre W')) := by
  refine callsIn_of_wp Try.func50 rfl trivial ?_ rfl
  simp only [Try.ntmps50, List.size_toArray, List.length_cons, List.length_nil, Nat.reduceAdd, Nat.reduceSub, Array.replicate_succ, Array.replicate_zero, List.push_toArray, List.append_toArray, List.nil_append, List.cons_append]
  obtain ⟨N, hNN⟩ : ∃ N, R.length = N := ⟨_, rfl⟩
  have HNN : Hid _ := hNN
  rw [hNN] at hBn hc hY hR
  clear hNN
  have HC : Hid _ := hc
  have HY : Hid _ := hY
  have HJ : Hid _ := hJ
  have HN : Hid (1 ≤ n) := hn
  clear hc hY hJ
  have hw : ∀ f : FuncId, Fence.wide.fn f := wide_fn
  gi_wp2
  gi_loopw [3, 9] (fun p i wr => ∃ (pre rest : Runs), R = pre ++ rest ∧ p = .int .i64 (cntR pre : Int) ∧ i = .int .i64 (pre.length : Int) ∧ Hid (J (spQ 0 pre) wr) ∧ Below n₀ W wr) (fun _ i _ => N - (intOf i).toNat)
  case atStart => exact ⟨[], R, rfl, rfl, rfl, h0, Below.refl _ _⟩
  case round =>
    obtain ⟨pre, rest, hx, rfl, rfl, hJs, hB⟩ := hrel
    cases rest with
    | nil =>
      have hlen : ¬ ((pre.length : Int) < (N : Int)) := by rw [← HNN.out, hx]; simp
      have HX : Hid _ := hx
      clear hx
      gi_wp2
      go_end0
      exact ⟨⟨_, rfl⟩, .inl (by rw [show R = pre by rw [HX.out, List.append_nil]]; exact hJs.out)⟩
    | cons x rest =>
      obtain ⟨⟨s, m⟩, k⟩ := x
      have hlt0 : pre.length < R.length := by rw [hx]; simp
      have hlt : pre.length < N := by rw [← HNN.out]; exact hlt0
      have hi : (pre.length : Int) < (N : Int) := by omega
      obtain ⟨e0, e1, e2⟩ := fn_flatL R pre.length hlt0
      have ex : R[pre.length] = ((s, m), k) := by simp [hx]
      rw [ex] at e0 e1 e2
      have c0 := (hB.cell (p := ⟨g, pre.length * 3, none⟩) hg0).trans (HC.out _ (by omega))
      have c1 := (hB.cell (p := ⟨g, pre.length * 3 + 1, none⟩) hg0).trans (HC.out _ (by omega))
      have c2 := (hB.cell (p := ⟨g, pre.length * 3 + 2, none⟩) hg0).trans (HC.out _ (by omega))
      rw [e0] at c0
      rw [e1] at c1
      rw [e2] at c2
      have hcn : cntR R = cntR pre + (k + cntR rest) := by rw [hx, cnt_app]; rfl
      have hk1 : (cntR pre : Int) + (k : Int) ≤ 1000000 := by omega
      have hnw : n₀ ≤ wr.heap.size := Nat.le_trans hn₀ hB.size
      have hpl : (spQ 0 pre).length < N := Nat.lt_of_le_of_lt (spQ_len 0 pre) hlt
      have hRl : R = (pre ++ [((s, m), k)]) ++ rest := by rw [hx]; simp
      have HRl : Hid _ := hRl
      have HB : Hid (Below n₀ W wr) := hB
      have hsp : Hid (spQ 0 (pre ++ [((s, m), k)]) = spQ 0 pre ++ (if s = 10 ∧ m = 0 then [] else [(cntR pre, cntR pre + k, s, m)])) := by show _ = _; rw [spQ_app, Nat.zero_add]; simp [spQ]
      have HE : Hid (∀ u : World, J (spQ 0 (pre ++ [((s, m), k)])) u → Below n₀ W u → ∃ (pre1 rest1 : Runs), R = pre1 ++ rest1 ∧ Value.int .i64 ((cntR pre : Int) + (k : Int)) = .int .i64 (cntR pre1 : Int) ∧ Value.int .i64 ((pre.length : Int) + 1) = .int .i64 (pre1.length : Int) ∧ Hid (J (spQ 0 pre1) u) ∧ Below n₀ W u) := fun u h1 h2 =>
        ⟨pre ++ [((s, m), k)], rest, hRl, by rw [cnt_app]; simp [cntR], by simp, h1, h2⟩
      have HM : Hid (N - (pre.length + 1) < N - pre.length) := by show _ < _; omega
      have HP : Hid (spQ 0 (pre ++ [((s, m), k)]) <+: spQ 0 R) := pre_of HRl.out rfl
      have HYY : Hid (¬ (s = 10 ∧ m = 0) → ∀ W1, wr.grownBy W1 none → YieldAt Fence.wide (n - 1) Try.prog l #[.agg #[.int .i64 (cntR pre : Int), .int .i64 ((cntR pre : Int) + (k : Int)), .int .i64 s, .int .i64 m]] W1 fun e W' => ∃ b, e = .returned (.bool b) ∧ Hid ((b = true ∧ J (spQ 0 (pre ++ [((s, m), k)])) W' ∧ Below n₀ W W') ∨ (b = false ∧ Jx (spQ 0 (pre ++ [((s, m), k)])) W'))) := fun hne W1 hg1 => by
        refine YieldAt.mono (HY.out (spQ 0 pre) (cntR pre, cntR pre + k, s, m) W1 (abides_none HJ.out hJs.out hg1) hpl) ?_
        rw [hsp.out, if_neg hne]
        rintro e W' (⟨rfl, h1, h2⟩ | ⟨rfl, h1⟩)
        · exact ⟨true, rfl, .inl ⟨rfl, h1, HB.out.trans ((below_none hg1 hnw).trans h2)⟩⟩
        · exact ⟨false, rfl, .inr ⟨rfl, h1⟩⟩
      have HX : Hid _ := hx
      clear e0 e1 e2 hB ex hcn hRl hpl hx hlt0
      by_cases hsm : s = 10 ∧ m = 0
      · obtain ⟨rfl, rfl⟩ := hsm
        have HJ2 : Hid (∀ u, wr.grownBy u none → J (spQ 0 (pre ++ [((10, 0), k)])) u) := fun u hu => by
          rw [hsp.out, if_pos ⟨rfl, rfl⟩, List.append_nil]; exact abides_none HJ.out hJs.out hu
        gi_wp2
        refine wpIn_wide.2 ?_
        obtain ⟨U, hU⟩ : ∃ U, wr.alloc (.cells #[.int .i64 10, .int .i64 0, .int .i64 (k : Int)] 84) = U := ⟨_, rfl⟩
        obtain ⟨G, hG⟩ : ∃ G, wr.heap.size = G := ⟨_, rfl⟩
        have hGU : G < U.heap.size := by rw [← hU, ← hG]; simp
        have g0 : U.cell? ⟨G, 0, none⟩ = some (.int .i64 10) := by rw [← hU, ← hG]; simp
        have g1 : U.cell? ⟨G, 1, none⟩ = some (.int .i64 0) := by rw [← hU, ← hG]; simp
        have HUB : Hid (Below wr.heap.size wr U) := by rw [← hU]; exact (Below.refl _ _).alloc (Nat.le_refl _) _
        rw [hU, hG]
        clear hU hG
        have e0 := Gr.cell g0 hGU
        have e1 := Gr.cell g1 hGU
        refine wp_region_grow (by kernel_rfl) (by kernel_rfl) ?_
        intro hneGr
        repeat (go_big_quiet_step ((go_at_call 49; exact Calls.grow_of (lookBase_is _))))
        refine wpQuiet_nil ?_
        intro w5 hu5
        have b5 := gr_out hu5
        clear hu5 e0 e1 g0 g1
        have b6 : Below wr.heap.size wr w5 := HUB.out.trans (b5.mono HUB.out.size)
        have hJ5 := HJ2.out w5 ⟨b6.os, b6.tape, b6.output, b6.size, fun q hq _ => b6.block q hq⟩
        have hB5 := HB.out.trans (b6.mono hnw)
        gi_wp2
        go_roundw
        case rel => exact HE.out _ hJ5 hB5
        case measure => simp only [intOf]; have := HM.out; omega
      · have HYW := HYY.out hsm
        have HYW : Hid _ := HYW
        gi_wp2
        obtain ⟨U, hU⟩ : ∃ U, wr.alloc (.cells #[.int .i64 s, .int .i64 m, .int .i64 (k : Int)] 84) = U := ⟨_, rfl⟩
        obtain ⟨G, hG⟩ : ∃ G, wr.heap.size = G := ⟨_, rfl⟩
        have hGU : G < U.heap.size := by rw [← hU, ← hG]; simp
        have g0 : U.cell? ⟨G, 0, none⟩ = some (.int .i64 s) := by rw [← hU, ← hG]; simp
        have g1 : U.cell? ⟨G, 1, none⟩ = some (.int .i64 m) := by rw [← hU, ← hG]; simp
        have HUB : Hid (Below wr.heap.size wr U) := by rw [← hU]; exact (Below.refl _ _).alloc (Nat.le_refl _) _
        rw [hU, hG]
        clear hU hG
        refine wpIn_region_any (by kernel_rfl) ?_
        try (change wpAnyIn _ _ _ _ _ _ _ _ _ (World.drew _))
        refine wpAnyIn_take (i := 0) (v := .pointer (some ⟨G, 0, none⟩)) rfl rfl (by kernel_rfl) (by kernel_rfl) (by kernel_rfl) (fun _ _ _ h => h) ⟨Or.inl ⟨by rfl, fun w => by go_simp⟩, fun _ => rfl⟩ ?_
        refine wpAnyIn_ready (rs := [1, 2]) (by kernel_rfl) (by simp) ?_
        refine AllReadyIn.cons rfl (fun K hK => ?_) (AllReadyIn.cons rfl (fun K hK => ?_) AllReadyIn.nil)
        · go_simp
          refine hK _ _ ?_
          clear hK K
          refine wpAnyIn_ready (rs := [2]) (by kernel_rfl) (by simp) ?_
          refine AllReadyIn.cons rfl (fun K hK => ?_) AllReadyIn.nil
          go_simp
          gi_wp2_with (gi_at_call 49; refine (lookBase_in Fence.wide _ trivial rfl _).mono ?_; rintro e w' ⟨rfl, rfl⟩)
          refine wpAnyIn_take (i := 3) (v := .bool true) rfl rfl (by kernel_rfl) (by kernel_rfl) (by kernel_rfl) (fun _ _ _ h => h) ⟨Or.inl ⟨by rfl, ?_⟩, fun _ => rfl⟩ ?_
          · intro w
            by_cases hs : s = 10
            · have hm : ¬ m = 0 := fun e => hsm ⟨hs, e⟩
              subst hs
              go_simp
            · go_simp
          refine wpAnyIn_take (i := 4) (v := .bool true) rfl rfl (by kernel_rfl) (by kernel_rfl) (by kernel_rfl) (fun _ _ _ h => h) ⟨Or.inl ⟨by rfl, fun w => by go_simp⟩, fun _ => rfl⟩ ?_
          refine wpAnyIn_take (i := 5) (v := .func (.yield l) #[] #[]) rfl rfl (by kernel_rfl) (by kernel_rfl) (by kernel_rfl) (fun _ _ _ h => h) ⟨Or.inl ⟨by rfl, fun w => by go_simp⟩, fun _ => rfl⟩ ?_
          go_simp
          refine wpAnyIn_take (i := 6) (v := .int .i64 (cntR pre : Int)) rfl rfl (by kernel_rfl) (by kernel_rfl) (by kernel_rfl) (fun _ _ _ h => h) ⟨Or.inl ⟨by rfl, fun w => by go_simp⟩, fun _ => rfl⟩ ?_
          refine wpAnyIn_take (i := 7) (v := .int .i64 ((cntR pre : Int) + (k : Int))) rfl rfl (by kernel_rfl) (by kernel_rfl) (by kernel_rfl) (fun _ _ _ h => h) ⟨Or.inl ⟨by rfl, fun w => by go_simp⟩, fun _ => rfl⟩ ?_
          refine wpAnyIn_take (i := 8) (v := .pointer (some ⟨G, 0, none⟩)) rfl rfl (by kernel_rfl) (by kernel_rfl) (by kernel_rfl) (fun _ _ _ h => h) ⟨Or.inl ⟨by rfl, fun w => by go_simp⟩, fun _ => rfl⟩ ?_
          go_simp
          refine wpAnyIn_take (i := 9) (v := .pointer (some ⟨G, 0, none⟩)) rfl rfl (by kernel_rfl) (by kernel_rfl) (by kernel_rfl) (fun _ _ _ h => h) ⟨Or.inl ⟨by rfl, fun w => by go_simp⟩, fun _ => rfl⟩ ?_
          refine wpAnyIn_take (i := 11) (v := .pointer (some ⟨G, 0, none⟩)) rfl rfl (by kernel_rfl) (by kernel_rfl) (by kernel_rfl) (fun _ _ _ h => h) ⟨Or.inl ⟨by rfl, fun w => by go_simp⟩, fun _ => rfl⟩ ?_
          refine wpAnyIn_take (i := 12) (v := .pointer (some ⟨G, 1, none⟩)) rfl rfl (by kernel_rfl) (by kernel_rfl) (by kernel_rfl) (fun _ _ _ h => h) ⟨Or.inl ⟨by rfl, fun w => by go_simp⟩, fun _ => rfl⟩ ?_
          go_simp
          refine wpAnyIn_ready (rs := [10, 13]) (by kernel_rfl) (by simp) ?_
          refine AllReadyIn.cons rfl (fun K hK => ?_) (AllReadyIn.cons rfl (fun K hK => ?_) AllReadyIn.nil)
          · go_simp
            refine hK _ _ ?_
            clear hK K
            refine wpAnyIn_ready (rs := [13]) (by kernel_rfl) (by simp) ?_
            refine AllReadyIn.cons rfl (fun K hK => ?_) AllReadyIn.nil
            go_simp
            refine hK _ _ ?_
            clear hK K
            refine wpAnyIn_take (i := 14) (v := .agg #[.int .i64 (cntR pre : Int), .int .i64 ((cntR pre : Int) + (k : Int)), .int .i64 s, .int .i64 m]) rfl rfl (by kernel_rfl) (by kernel_rfl) (by kernel_rfl) (fun _ _ _ h => h) ⟨Or.inl ⟨by rfl, fun w => by go_simp⟩, fun _ => rfl⟩ ?_
            refine wpAnyIn_ready (rs := [15]) (by kernel_rfl) (by simp) ?_
            refine AllReadyIn.cons rfl (fun K hK => ?_) AllReadyIn.nil
            go_simp
            refine uponIn_yield HN.out (HYW.out _ ?_) ?_
            · exact (below_to_none (HUB.out.trans (((Below.refl U.heap.size U).alloc (Nat.le_refl _) _).drew.mono HUB.out.size)))
            rintro b W3 hb
            refine hK _ _ ?_
            clear hK K
            refine wpAnyIn_take (i := 16) (v := .bool (!b)) rfl rfl (by kernel_rfl) (by kernel_rfl) (by kernel_rfl) (fun _ _ _ h => h) ⟨Or.inl ⟨by rfl, fun w => by go_simp⟩, fun _ => rfl⟩ ?_
            refine wpAnyIn_take (i := 17) (v := .bool (!b)) rfl rfl (by kernel_rfl) (by kernel_rfl) (by kernel_rfl) (fun _ _ _ h => h) ⟨Or.inl ⟨by rfl, fun w => by go_simp⟩, fun _ => rfl⟩ ?_
            refine wpAnyIn_done (by kernel_rfl) ?_ _
            rcases hb.out with ⟨rfl, h1, h2⟩ | ⟨rfl, h1⟩
            · gi_wp2
              go_roundw
              case rel => exact HE.out _ h1 h2
              case measure => simp only [intOf]; have := HM.out; omega
            · gi_wp2
              refine bodyPost_ret (results_none rfl _ _ _) rfl ?_
              exact ⟨⟨_, rfl⟩, .inr ⟨_, HP.out, h1⟩⟩
          · go_simp
            refine hK _ _ ?_
            clear hK K
            refine wpAnyIn_ready (rs := [10]) (by kernel_rfl) (by simp) ?_
            refine AllReadyIn.cons rfl (fun K hK => ?_) AllReadyIn.nil
            go_simp
            refine hK _ _ ?_
            clear hK K
            refine wpAnyIn_take (i := 14) (v := .agg #[.int .i64 (cntR pre : Int), .int .i64 ((cntR pre : Int) + (k : Int)), .int .i64 s, .int .i64 m]) rfl rfl (by kernel_rfl) (by kernel_rfl) (by kernel_rfl) (fun _ _ _ h => h) ⟨Or.inl ⟨by rfl, fun w => by go_simp⟩, fun _ => rfl⟩ ?_
            refine wpAnyIn_ready (rs := [15]) (by kernel_rfl) (by simp) ?_
            refine AllReadyIn.cons rfl (fun K hK => ?_) AllReadyIn.nil
            go_simp
            refine uponIn_yield HN.out (HYW.out _ ?_) ?_
            · exact (below_to_none (HUB.out.trans (((Below.refl U.heap.size U).alloc (Nat.le_refl _) _).drew.mono HUB.out.size)))
            rintro b W3 hb
            refine hK _ _ ?_
            clear hK K
            refine wpAnyIn_take (i := 16) (v := .bool (!b)) rfl rfl (by kernel_rfl) (by kernel_rfl) (by kernel_rfl) (fun _ _ _ h => h) ⟨Or.inl ⟨by rfl, fun w => by go_simp⟩, fun _ => rfl⟩ ?_
            refine wpAnyIn_take (i := 17) (v := .bool (!b)) rfl rfl (by kernel_rfl) (by kernel_rfl) (by kernel_rfl) (fun _ _ _ h => h) ⟨Or.inl ⟨by rfl, fun w => by go_simp⟩, fun _ => rfl⟩ ?_
            refine wpAnyIn_done (by kernel_rfl) ?_ _
            rcases hb.out with ⟨rfl, h1, h2⟩ | ⟨rfl, h1⟩
            · gi_wp2
              go_roundw
              case rel => exact HE.out _ h1 h2
              case measure => simp only [intOf]; have := HM.out; omega
            · gi_wp2
              refine bodyPost_ret (results_none rfl _ _ _) rfl ?_
              exact ⟨⟨_, rfl⟩, .inr ⟨_, HP.out, h1⟩⟩
        · go_simp
          gi_wp2_with (gi_at_call 49; refine (lookBase_in Fence.wide _ trivial rfl _).mono ?_; rintro e w' ⟨rfl, rfl⟩)
          refine wpAnyIn_ready (rs := [1]) (by kernel_rfl) (by simp) ?_
          refine AllReadyIn.cons rfl (fun K hK => ?_) AllReadyIn.nil
          go_simp
          refine hK _ _ ?_
          clear hK K
          refine wpAnyIn_take (i := 3) (v := .bool true) rfl rfl (by kernel_rfl) (by kernel_rfl) (by kernel_rfl) (fun _ _ _ h => h) ⟨Or.inl ⟨by rfl, ?_⟩, fun _ => rfl⟩ ?_
          · intro w
            by_cases hs : s = 10
            · have hm : ¬ m = 0 := fun e => hsm ⟨hs, e⟩
              subst hs
              go_simp
            · go_simp
          refine wpAnyIn_take (i := 4) (v := .bool true) rfl rfl (by kernel_rfl) (by kernel_rfl) (by kernel_rfl) (fun _ _ _ h => h) ⟨Or.inl ⟨by rfl, fun w => by go_simp⟩, fun _ => rfl⟩ ?_
          refine wpAnyIn_take (i := 5) (v := .func (.yield l) #[] #[]) rfl rfl (by kernel_rfl) (by kernel_rfl) (by kernel_rfl) (fun _ _ _ h => h) ⟨Or.inl ⟨by rfl, fun w => by go_simp⟩, fun _ => rfl⟩ ?_
          go_simp
          refine wpAnyIn_take (i := 6) (v := .int .i64 (cntR pre : Int)) rfl rfl (by kernel_rfl) (by kernel_rfl) (by kernel_rfl) (fun _ _ _ h => h) ⟨Or.inl ⟨by rfl, fun w => by go_simp⟩, fun _ => rfl⟩ ?_
          refine wpAnyIn_take (i := 7) (v := .int .i64 ((cntR pre : Int) + (k : Int))) rfl rfl (by kernel_rfl) (by kernel_rfl) (by kernel_rfl) (fun _ _ _ h => h) ⟨Or.inl ⟨by rfl, fun w => by go_simp⟩, fun _ => rfl⟩ ?_
          refine wpAnyIn_take (i := 8) (v := .pointer (some ⟨G, 0, none⟩)) rfl rfl (by kernel_rfl) (by kernel_rfl) (by kernel_rfl) (fun _ _ _ h => h) ⟨Or.inl ⟨by rfl, fun w => by go_simp⟩, fun _ => rfl⟩ ?_
          go_simp
          refine wpAnyIn_take (i := 9) (v := .pointer (some ⟨G, 0, none⟩)) rfl rfl (by kernel_rfl) (by kernel_rfl) (by kernel_rfl) (fun _ _ _ h => h) ⟨Or.inl ⟨by rfl, fun w => by go_simp⟩, fun _ => rfl⟩ ?_
          refine wpAnyIn_take (i := 11) (v := .pointer (some ⟨G, 0, none⟩)) rfl rfl (by kernel_rfl) (by kernel_rfl) (by kernel_rfl) (fun _ _ _ h => h) ⟨Or.inl ⟨by rfl, fun w => by go_simp⟩, fun _ => rfl⟩ ?_
          refine wpAnyIn_take (i := 12) (v := .pointer (some ⟨G, 1, none⟩)) rfl rfl (by kernel_rfl) (by kernel_rfl) (by kernel_rfl) (fun _ _ _ h => h) ⟨Or.inl ⟨by rfl, fun w => by go_simp⟩, fun _ => rfl⟩ ?_
          go_simp
          refine wpAnyIn_ready (rs := [10, 13]) (by kernel_rfl) (by simp) ?_
          refine AllReadyIn.cons rfl (fun K hK => ?_) (AllReadyIn.cons rfl (fun K hK => ?_) AllReadyIn.nil)
          · go_simp
            refine hK _ _ ?_
            clear hK K
            refine wpAnyIn_ready (rs := [13]) (by kernel_rfl) (by simp) ?_
            refine AllReadyIn.cons rfl (fun K hK => ?_) AllReadyIn.nil
            go_simp
            refine hK _ _ ?_
            clear hK K
            refine wpAnyIn_take (i := 14) (v := .agg #[.int .i64 (cntR pre : Int), .int .i64 ((cntR pre : Int) + (k : Int)), .int .i64 s, .int .i64 m]) rfl rfl (by kernel_rfl) (by kernel_rfl) (by kernel_rfl) (fun _ _ _ h => h) ⟨Or.inl ⟨by rfl, fun w => by go_simp⟩, fun _ => rfl⟩ ?_
            refine wpAnyIn_ready (rs := [15]) (by kernel_rfl) (by simp) ?_
            refine AllReadyIn.cons rfl (fun K hK => ?_) AllReadyIn.nil
            go_simp
            refine uponIn_yield HN.out (HYW.out _ ?_) ?_
            · exact (below_to_none (HUB.out.trans (((Below.refl U.heap.size U).alloc (Nat.le_refl _) _).drew.mono HUB.out.size)))
            rintro b W3 hb
            refine hK _ _ ?_
            clear hK K
            refine wpAnyIn_take (i := 16) (v := .bool (!b)) rfl rfl (by kernel_rfl) (by kernel_rfl) (by kernel_rfl) (fun _ _ _ h => h) ⟨Or.inl ⟨by rfl, fun w => by go_simp⟩, fun _ => rfl⟩ ?_
            refine wpAnyIn_take (i := 17) (v := .bool (!b)) rfl rfl (by kernel_rfl) (by kernel_rfl) (by kernel_rfl) (fun _ _ _ h => h) ⟨Or.inl ⟨by rfl, fun w => by go_simp⟩, fun _ => rfl⟩ ?_
            refine wpAnyIn_done (by kernel_rfl) ?_ _
            rcases hb.out with ⟨rfl, h1, h2⟩ | ⟨rfl, h1⟩
            · gi_wp2
              go_roundw
              case rel => exact HE.out _ h1 h2
              case measure => simp only [intOf]; have := HM.out; omega
            · gi_wp2
              refine bodyPost_ret (results_none rfl _ _ _) rfl ?_
              exact ⟨⟨_, rfl⟩, .inr ⟨_, HP.out, h1⟩⟩
          · go_simp
            refine hK _ _ ?_
            clear hK K
            refine wpAnyIn_ready (rs := [10]) (by kernel_rfl) (by simp) ?_
            refine AllReadyIn.cons rfl (fun K hK => ?_) AllReadyIn.nil
            go_simp
            refine hK _ _ ?_
            clear hK K
            refine wpAnyIn_take (i := 14) (v := .agg #[.int .i64 (cntR pre : Int), .int .i64 ((cntR pre : Int) + (k : Int)), .int .i64 s, .int .i64 m]) rfl rfl (by kernel_rfl) (by kernel_rfl) (by kernel_rfl) (fun _ _ _ h => h) ⟨Or.inl ⟨by rfl, fun w => by go_simp⟩, fun _ => rfl⟩ ?_
            refine wpAnyIn_ready (rs := [15]) (by kernel_rfl) (by simp) ?_
            refine AllReadyIn.cons rfl (fun K hK => ?_) AllReadyIn.nil
            go_simp
            refine uponIn_yield HN.out (HYW.out _ ?_) ?_
            · exact (below_to_none (HUB.out.trans (((Below.refl U.heap.size U).alloc (Nat.le_refl _) _).drew.mono HUB.out.size)))
            rintro b W3 hb
            refine hK _ _ ?_
            clear hK K
            refine wpAnyIn_take (i := 16) (v := .bool (!b)) rfl rfl (by kernel_rfl) (by kernel_rfl) (by kernel_rfl) (fun _ _ _ h => h) ⟨Or.inl ⟨by rfl, fun w => by go_simp⟩, fun _ => rfl⟩ ?_
            refine wpAnyIn_take (i := 17) (v := .bool (!b)) rfl rfl (by kernel_rfl) (by kernel_rfl) (by kernel_rfl) (fun _ _ _ h => h) ⟨Or.inl ⟨by rfl, fun w => by go_simp⟩, fun _ => rfl⟩ ?_
            refine wpAnyIn_done (by kernel_rfl) ?_ _
            rcases hb.out with ⟨rfl, h1, h2⟩ | ⟨rfl, h1⟩
            · gi_wp2
              go_roundw
              case rel => exact HE.out _ h1 h2
              case measure => simp only [intOf]; have := HM.out; omega
            · gi_wp2
              refine bodyPost_ret (results_none rfl _ _ _) rfl ?_
              exact ⟨⟨_, rfl⟩, .inr ⟨_, HP.out, h1⟩⟩
end Go.Proofs.Ytobmdefklgkoiaa
