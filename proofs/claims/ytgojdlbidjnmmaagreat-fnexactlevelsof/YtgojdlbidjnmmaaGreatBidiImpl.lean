import Derived.Test.YtgojdlbidjnmmaaGreatTab
namespace Go.Proofs.YtgojdlbidjnmmaaGreat
open Go.ChangeShapes Go.WideShapes Go.ChangeAt Go.RowKit
set_option linter.unusedSimpArgs false

theorem zeroValueTab (w : World) : Sem.run Tryz.prog (zeroValue 113) w = .ok (.agg zeros) w := by
  simp only [zeroValue, Sem.run_bind, Tryz.typeInfo113, Result.andThen_ok]
  kernel_rfl

theorem at_buildTab {ops : Array Oper} {rest : List Oper} {o : Oper} {a : Act} {w : World} {Q : Exit → Act → World → Prop} (hg : o.guard = none) (parts : Array (Nat × Operand)) (ho : o.op = .build 113 parts)
    (hb : Tryz.prog.built 113 (parts.map fun (i, x) => (i, a.eval x)).toList = some tab)
    (h : wpList Tryz.prog ops Q rest (a.put o.dst (.agg tab)) w) : wpList Tryz.prog ops Q (o :: rest) a w :=
  wpList_build hg 113 parts ho (by rw [hb]; rfl) (by rw [hb]; exact h)

theorem laid_new (w : World) : (w.alloc (.cells zeros 113)).heap[w.heap.size]? = some (.cells zeros 113 (0, 0)) := by show (w.heap.push _)[w.heap.size]? = _; simp

theorem laid_newZ (w : World) (Z : Array Value) : (w.alloc (.cells Z 113)).heap[w.heap.size]? = some (.cells Z 113 (0, 0)) := by show (w.heap.push _)[w.heap.size]? = _; simp

theorem laid (w : World) : ∃ W, (w.alloc (.cells zeros 113)).setRow w.heap.size tab = W ∧ W.heap.size = w.heap.size + 1 ∧ Below w.heap.size w W ∧ ∀ j, W.cell? ⟨w.heap.size, j, none⟩ = tab[j]? := by
  refine ⟨_, rfl, by simp, ⟨rfl, rfl, rfl, by simp, fun k hk => ?_⟩, fun j => ?_⟩
  · rw [setRow_other _ _ _ _ (by omega)]
    exact Below.heap_alloc w _ k hk
  · exact cell_setRow_same _ _ j zeros tab 113 (0, 0) (laid_new w)

attribute [local go_sem 2000] zeroValueTab
set_option maxRecDepth 100000 in
set_option maxHeartbeats 4000000 in
theorem implBidi (r : Int) (w : World) : Calls Tryz.prog 87 #[.int .i64 r] w fun e w' => e = .returned (.int .i64 (bidi r)) ∧ Below w.heap.size w w' := by
  obtain ⟨W, hW, hsz, hB, hcell⟩ := laid w
  have HW : Hid _ := hW
  have HC : Hid _ := hcell
  clear hcell hW
  go_enter Tryz.func87, Tryz.ntmps87
  go_wp2_with (first | (refine at_buildTab rfl _ rfl (by kernel_rfl) ?_) | (refine wpList_store_row rfl 113 _ _ rfl w.heap.size tab rfl rfl 113 zeros (laid_new w) (by kernel_rfl) (by kernel_rfl) (by kernel_rfl) ?_; rw [HW.out]) | (refine wpList_store_row rfl 113 _ _ rfl w.heap.size tab rfl rfl 113 Tryz.zeroCells113 (laid_newZ w _) (by kernel_rfl) (by kernel_rfl) (by kernel_rfl) ?_; rw [show Tryz.zeroCells113 = zeros by kernel_rfl, HW.out]))
  refine (first_any w.heap.size lasts 28 (by omega) r W lasts_up (fun m hm => by rw [HC.out]; exact tab_last m hm)).mono ?_
  rintro e w' ⟨⟨k, rfl, hk, hkk⟩, rfl⟩
  by_cases h28 : k < 28
  · have c1 : w'.cell? ⟨w.heap.size, k * 3, none⟩ = some (.int .i64 (firsts k)) := by rw [HC.out]; exact tab_first k h28
    have c2 : w'.cell? ⟨w.heap.size, k * 3 + 2, none⟩ = some (.int .i64 (kinds k)) := by rw [HC.out]; exact tab_kind k h28
    have hne : ((k : Int) == 28) = false := by simp; omega
    have hki : (k : Int) < 28 := by omega
    by_cases hf : r < firsts k
    · go_wp2
      go_ret
      exact ⟨ret_int (tab_miss r k h28 (fun h0 => hkk.out.1 _ (by omega)) hf).symm, hB⟩
    · go_wp2
      go_ret
      exact ⟨ret_int (tab_hit r k h28 (hkk.out.2 h28) (by omega)).symm, hB⟩
  · have e : k = 28 := by omega
    subst e
    go_wp2
    go_ret
    exact ⟨ret_int (tab_end r (hkk.out.1 27 (by omega))).symm, hB⟩
end Go.Proofs.YtgojdlbidjnmmaaGreat
