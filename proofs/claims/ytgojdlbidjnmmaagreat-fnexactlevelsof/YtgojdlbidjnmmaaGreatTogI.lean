import Derived.Test.YtgojdlbidjnmmaaGreatTogM
import Derived.Test.YtgojdlbidjnmmaaGreatTogR
import Derived.Test.YtgojdlbidjnmmaaGreatOwnApp
import Derived.Deep.AppendLies
namespace Go.Proofs.YtgojdlbidjnmmaaGreat
open Go.ChangeShapes Go.WideShapes Go.ChangeAt Go.RowKit Go.Deep
set_option linter.unusedSimpArgs false
set_option linter.unusedVariables false

/-- 'append(out, more...)' of places, and where the new row lies. -/
theorem own_appendR {ops : Array Oper} {rest : List Oper} {o : Oper} {a : Act} {Q : Exit → Act → World → Prop} {wr : World} {v : Value} {l m : List Int} {B B2 g n cap : Nat} {TS : TypeId} (s x : Operand) (hTS : Tryz.prog.underlying TS = some (.slice 3)) (hown : OwnI wr B v l) (hm : OwnI wr B2 (.slice (some ⟨g, 0, none⟩) n cap) m) (hl : l.length + n ≤ 1048576) (hB : B ≤ wr.heap.size)
    (hgd : o.guard = none) (ho : o.op = .call { callee := .builtin .append, args := #[s, x], argTypes := #[TS, TS] }) (hs : a.eval s = v)
    (hx : a.eval x = .slice (some ⟨g, 0, none⟩) n cap)
    (h : ∀ v' w', OwnI w' B v' (l ++ m) → wr.grownBy w' v.ownBlock → (v'.ownBlock = v.ownBlock ∨ v'.ownBlock = some wr.heap.size) → wpList Tryz.prog ops Q rest (a.put o.dst v') w') :
    wpList Tryz.prog ops Q (o :: rest) a wr := by
  obtain ⟨i0, hi, hz0, hz1, hz2⟩ := info_parts infoI
  have hlen := hm.len
  refine wpList_append_own_at _ hgd s x TS ho B 3 i0 (.int .i64 0) 1 8 hTS hi hz0 hz1 hz2 rfl (by decide) v l.length (l.map (Value.int .i64)) hs hown ⟨g, 0, none⟩ n cap (m.map (Value.int .i64)) hx (by simp [hlen]) ?_ ?_ ?_ ?_ ?_ ?_
  · intro j u hj
    rw [List.getElem?_map] at hj
    have hjm : j < m.length := by
      rcases Nat.lt_or_ge j m.length with h | h
      · exact h
      · rw [List.getElem?_eq_none h] at hj; cases hj
    rw [List.getElem?_eq_getElem hjm] at hj
    simp at hj
    have hadd : (⟨g, 0, none⟩ : Addr).add j = ⟨g, j, none⟩ := by unfold Addr.add; split <;> simp_all
    rw [hadd, hm.cellN j (by omega), ← hj, fn_get hjm]
  · intro u hu; simp at hu; obtain ⟨y, _, rfl⟩ := hu; rfl
  · unfold maxLen; omega
  · omega
  · omega
  · intro v' w' h1 h2 _ h3
    refine h v' w' ?_ h2 h3
    unfold OwnI; rw [List.length_append, List.map_append, hlen]; exact h1

/-- .. at a step of a region that draws its order. -/
theorem step_appendR {ops : Array Oper} {o : Oper} {a : Act} {K : Act → World → Prop} {Q : Exit → Act → World → Prop} {E : Prop} {wr : World} {v : Value} {l m : List Int} {B B2 g n cap : Nat} {TS : TypeId} (s x : Operand) (hTS : Tryz.prog.underlying TS = some (.slice 3)) (hown : OwnI wr B v l) (hm : OwnI wr B2 (.slice (some ⟨g, 0, none⟩) n cap) m) (hn : 0 < n) (hl : l.length + n ≤ 1048576) (hB : B ≤ wr.heap.size)
    (hgd : o.guard = none) (ho : o.op = .call { callee := .builtin .append, args := #[s, x], argTypes := #[TS, TS] }) (hs : a.eval s = v)
    (hx : a.eval x = .slice (some ⟨g, 0, none⟩) n cap)
    (h : ∀ g' c' w', OwnI w' B (.slice (some ⟨g', 0, none⟩) (l.length + n) c') (l ++ m) → wr.grownBy w' v.ownBlock → (v.ownBlock = some g' ∨ g' = wr.heap.size) → K (a.put o.dst (.slice (some ⟨g', 0, none⟩) (l.length + n) c')) w') :
    if Region.wanted o (yielded ops a.tmps) = true then Oper.wp Tryz.prog o a wr K Q else E := by
  obtain ⟨i0, hi, hz0, hz1, hz2⟩ := info_parts infoI
  have hlen := hm.len
  refine step_append_lies wr hgd s x TS ho B 3 i0 (.int .i64 0) 1 8 hTS hi hz0 hz1 hz2 rfl (by decide) v l.length (l.map (Value.int .i64)) hs hown ⟨g, 0, none⟩ n cap (m.map (Value.int .i64)) hx (by simp [hlen]) ?_ ?_ hn ?_ ?_ hB _ rfl ?_
  · intro j u hj
    rw [List.getElem?_map] at hj
    have hjm : j < m.length := by
      rcases Nat.lt_or_ge j m.length with h | h
      · exact h
      · rw [List.getElem?_eq_none h] at hj; cases hj
    rw [List.getElem?_eq_getElem hjm] at hj
    simp at hj
    have hadd : (⟨g, 0, none⟩ : Addr).add j = ⟨g, j, none⟩ := by unfold Addr.add; split <;> simp_all
    rw [hadd, hm.cellN j (by omega), ← hj, fn_get hjm]
  · intro u hu; simp at hu; obtain ⟨y, _, rfl⟩ := hu; rfl
  · unfold maxLen; omega
  · omega
  · intro g' c' w' h1 h2 h3 h4
    refine h g' c' w' ?_ h2 h3
    unfold OwnI; rw [List.length_append, List.map_append, hlen]; exact h1
theorem quiet_of_more {f : FuncId} {args : Array Value} {w : World} {k n : Nat} {v : Value} (h : Calls Tryz.prog f args (w.drewN (k + n)) fun e w' => e = .returned v ∧ w' = w.drewN (k + n)) : Calls Tryz.prog f args (w.drewN (k + n)) fun e w'' => e = .returned v ∧ ∃ m, w'' = w.drewN (k + m) :=
  h.mono fun _ _ ⟨he, hm⟩ => ⟨he, n, hm⟩
theorem placesFirst (g n cap : Nat) (x : Int) (w : World) (hc : w.cell? ⟨g, 0, none⟩ = some (.int .i64 x)) (hn : 0 < n) :
    Calls Tryz.prog 61 #[.slice (some ⟨g, 0, none⟩) n cap] w fun e w' => e = .returned (.int .i64 x) ∧ w' = w := by
  have hn2 : (0 : Int) < (n : Int) := by omega
  go_enter Tryz.func61, Tryz.ntmps61
  go_wp2_with fail
  go_ret
  exact ⟨rfl, rfl⟩
theorem placesLast (g m cap : Nat) (x : Int) (w : World) (hc : w.cell? ⟨g, m, none⟩ = some (.int .i64 x)) (hm : m ≤ 1048576) :
    Calls Tryz.prog 96 #[.slice (some ⟨g, 0, none⟩) (m + 1) cap] w fun e w' => e = .returned (.int .i64 x) ∧ w' = w := by
  go_enter Tryz.func96, Tryz.ntmps96
  go_wp2_with fail
  go_ret
  exact ⟨rfl, rfl⟩

theorem implMol (g m cap x : Nat) (lvl : Int) {B T gm gq gl gc n : Nat} {base : Int} {cs M L cls : List Int} {c : Nat → Int} (w : World) (h : TT w B T gm gq gl gc n base cs M L cls) (hn80 : n ≤ 1000) (hc : w.cell? ⟨g, m, none⟩ = some (.int .i64 (x : Int))) (hm : m ≤ 1048576) (hx : x < n) (hg : g < w.heap.size) (hcs : ∀ j, j < n → fn cs j = c j) :
    Calls Tryz.prog 62 #[.pointer (some ⟨T, 0, none⟩), .agg #[.slice (some ⟨g, 0, none⟩) (m + 1) cap, .int .i64 lvl]] w fun e w' => e = .returned (.int .i64 (molF c M x)) ∧ Below w.heap.size w w' := by
  obtain ⟨W, hW⟩ : ∃ W, w.alloc (.cells #[.slice (some ⟨g, 0, none⟩) (m + 1) cap, .int .i64 lvl] 49) = W := ⟨_, rfl⟩
  have hBW : Below w.heap.size w W := by rw [← hW]; exact (Below.refl _ _).alloc (Nat.le_refl _) _
  have t0 : W.heap[w.heap.size]? = some (.cells #[.slice (some ⟨g, 0, none⟩) (m + 1) cap, .int .i64 lvl] 49) := by rw [← hW]; exact heap_alloc_new _ _
  have b0 : W.cell? ⟨w.heap.size, 0, none⟩ = _ := cell_of_row W w.heap.size 0 _ _ (0, 0) t0
  simp only [Array.getElem?_toList, List.getElem?_toArray, List.getElem?_cons_zero] at b0
  have h2 := h.below hBW
  have c1 := h2.c1
  have c2 := h2.c2
  have hcx : W.cell? ⟨gm, x, none⟩ = some (.int .i64 (c x)) := by rw [h2.om.cellN x hx, hcs x hx]
  have hqx : W.cell? ⟨gq, x, none⟩ = some (.int .i64 (fn M x)) := h2.oq.cellN x hx
  have hcl : W.cell? ⟨g, m, none⟩ = some (.int .i64 (x : Int)) := (World.cell?_of_block (hBW.block g hg)).trans hc
  have hxi : (x : Int) < (n : Int) := by omega
  have HL : Hid (∀ q, Calls Tryz.prog 96 #[.slice (some ⟨g, 0, none⟩) (m + 1) cap] (W.drewN q) fun e w' => e = .returned (.int .i64 (x : Int)) ∧ w' = W.drewN q) := fun q => placesLast g m cap (x : Int) (W.drewN q) hcl hm
  have HO : Hid (∀ q, Calls Tryz.prog 91 #[.int .i64 (c x)] (W.drewN q) fun e w' => e = .returned (.bool (opensB (c x))) ∧ w' = W.drewN q) := fun q => implOpens _ _
  have HW : Hid _ := hW
  have HBW : Hid _ := hBW
  unfold molF
  obtain ⟨q, hq⟩ : ∃ q, opensB (c x) = q := ⟨_, rfl⟩
  rw [hq] at HO ⊢
  clear h h2 t0 hW hBW hcs hq hc
  cases q
  · rw [if_neg (by simp)]
    go_enter Tryz.func62, Tryz.ntmps62
    go_upto_region 1 with fail
    rw [HW.out]
    go_quiet (first | (go_at_call 96; with_reducible exact Calls.quiet_of_same (HL.out _)) | (go_at_call 91; with_reducible exact Calls.quiet_of_same (HO.out _)))
    go_wp2_with fail
    go_ret
    exact ⟨rfl, HBW.out.trans ((below_draws _ _).mono HBW.out.size)⟩
  · rw [if_pos rfl]
    go_enter Tryz.func62, Tryz.ntmps62
    go_upto_region 1 with fail
    rw [HW.out]
    go_quiet (first | (go_at_call 96; with_reducible exact Calls.quiet_of_same (HL.out _)) | (go_at_call 91; with_reducible exact Calls.quiet_of_same (HO.out _)))
    go_wp2_with fail
    go_quiet ((go_at_call 96; with_reducible exact quiet_of_more (HL.out _)))
    go_wp2_with fail
    go_ret
    exact ⟨rfl, (HBW.out.trans ((below_draws _ _).mono HBW.out.size)).trans ((below_draws _ _).mono HBW.out.size)⟩
end Go.Proofs.YtgojdlbidjnmmaaGreat
