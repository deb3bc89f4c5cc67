import Derived.Test.YtgojdlbidjnmmaaGreatRRow
import Derived.Deep.RegionLaw
import Derived.Deep.AppendLies
namespace Go.Proofs.YtgojdlbidjnmmaaGreat
open Go.ChangeShapes Go.WideShapes Go.ChangeAt Go.RowKit
set_option linter.unusedSimpArgs false
set_option linter.unusedVariables false

/-- A slice of slices of numbers, each with what it holds, in a list of both. -/
structure RZ (w : World) (B : Nat) (v : Value) (zs : List (Value × List Int)) : Prop where
  own : OwnV 23 1 w B v zs.length (zs.map (·.1))
  row : ∀ q ∈ zs, OwnI w B q.1 q.2
  apv : ∀ q ∈ zs, Apart v q.1
  pw : zs.Pairwise (fun a b => Apart a.1 b.1)
section
variable {w w' : World} {B : Nat} {v : Value} {zs : List (Value × List Int)}
theorem RZ.kept (h : RZ w B v zs) (hb : ∀ b, (v.ownBlock = some b ∨ ∃ q ∈ zs, q.1.ownBlock = some b) → w'.heap[b]? = w.heap[b]?) : RZ w' B v zs :=
  ⟨h.own.kept (fun b hk => hb b (.inl hk)), fun q hq => (h.row q hq).kept (fun b hk => hb b (.inr ⟨q, hq, hk⟩)), h.apv, h.pw⟩
theorem RZ.below (h : RZ w B v zs) (hb : Below w.heap.size w w') : RZ w' B v zs :=
  ⟨h.own.below hb, fun q hq => (h.row q hq).below hb, h.apv, h.pw⟩
theorem RZ.mono {B' : Nat} (h : RZ w B v zs) (hB : B' ≤ B) : RZ w B' v zs :=
  ⟨h.own.mono hB, fun q hq => (h.row q hq).mono hB, h.apv, h.pw⟩
theorem RZ.nil (w : World) (B : Nat) : RZ w B (.slice none 0 0) [] := ⟨OwnV.nil _ _ _ _, by simp, by simp, by simp⟩
theorem RZ.empty (w : World) (B : Nat) (T : TypeId) (h : B ≤ w.heap.size) (hT : T = 23) : RZ (w.alloc (.cells #[] T)) B (.slice (some ⟨w.heap.size, 0, none⟩) 0 0) [] :=
  ⟨OwnV.empty _ _ _ _ _ h hT, by simp, by simp, by simp⟩
theorem RZ.lt (h : RZ w B v zs) : ∀ b, v.ownBlock = some b → B ≤ b ∧ b < w.heap.size := h.own.lt
theorem RZ.slc (h : RZ w B v zs) : ∃ a cap, v = .slice a zs.length cap := h.own.slc
theorem RZ.cellAt {g n cap : Nat} (h : RZ w B (.slice (some ⟨g, 0, none⟩) n cap) zs) (j : Nat) (hj : j < zs.length) : w.cell? ⟨g, j, none⟩ = some (zs[j]).1 := by
  have hown := h.own
  obtain ⟨a, c, e⟩ := hown.slc
  simp only [Value.slice.injEq] at e
  obtain ⟨rfl, rfl, rfl⟩ := e
  rw [hown.cell j (by omega)]
  simp [hj]
theorem RZ.rowAt (h : RZ w B v zs) (j : Nat) (hj : j < zs.length) : OwnI w B (zs[j]).1 (zs[j]).2 := h.row _ (List.getElem_mem hj)
/-- A new row, behind all others. -/
theorem RZ.snoc {w2 : World} {vx v' : Value} {x : List Int} {n : Nat} (hn : zs.length = n) (h : RZ w B v zs) (hB : B ≤ w.heap.size) (hb : Below w.heap.size w w2) (hx : OwnI w2 w.heap.size vx x) (ho : OwnV 23 1 w' B v' (n + 1) (zs.map (·.1) ++ [vx])) (hg : w2.grownBy w' v.ownBlock) (hv : v'.ownBlock = v.ownBlock ∨ ∃ H, v'.ownBlock = some H ∧ w2.heap.size ≤ H) :
    RZ w' B v' (zs ++ [(vx, x)]) := by
  subst hn
  have hsz := hb.size
  have hx' : OwnI w' B vx x := (hx.mono hB).kept (fun b hk => hg.block b (hx.lt b hk).2 (fun e => by have := (h.lt b e.symm).2; have := (hx.lt b hk).1; omega))
  refine ⟨by simpa using ho, fun q hq => ?_, fun q hq => ?_, ?_⟩
  · simp at hq
    rcases hq with hq | rfl
    · exact ((h.row q hq).below hb).kept (fun b hk => hg.block b (Nat.lt_of_lt_of_le ((h.row q hq).lt b hk).2 hsz) (fun e => h.apv q hq b e.symm hk))
    · exact hx'
  · simp at hq
    intro b h1 h2
    rcases hq with hq | rfl
    · rcases hv with e | ⟨H, e, hH⟩
      · exact h.apv q hq b (by rw [← e]; exact h1) h2
      · rw [e] at h1; simp at h1; have := ((h.row q hq).lt b h2).2; omega
    · rcases hv with e | ⟨H, e, hH⟩
      · rw [e] at h1; have := (h.lt b h1).2; have := (hx.lt b h2).1; omega
      · rw [e] at h1; simp at h1; have := (hx.lt b h2).2; omega
  · rw [List.pairwise_append]
    refine ⟨h.pw, by simp, fun a ha b hb => ?_⟩
    simp at hb; subst hb
    intro k h1 h2
    have := ((h.row a ha).lt k h1).2; have := (hx.lt k h2).1; omega
/-- The same rows and one more, in whatever order, under a head of its own. -/
theorem RZ.anew {w2 : World} {vx v' : Value} {x : List Int} {zs' : List (Value × List Int)} {n : Nat} (hn : zs'.length = n) (h : RZ w B v zs) (hB : B ≤ w.heap.size) (hb : Below w.heap.size w w2) (hx : OwnI w2 w.heap.size vx x) (hp : zs'.Perm ((vx, x) :: zs)) (hb2 : Below w2.heap.size w2 w') (ho : OwnV 23 1 w' w2.heap.size v' n (zs'.map (·.1))) : RZ w' B v' zs' := by
  subst hn
  have hsz := hb.size
  have hall : ∀ q ∈ zs', OwnI w2 B q.1 q.2 := fun q hq => by
    have := hp.mem_iff.1 hq
    simp at this
    rcases this with rfl | hq
    · exact hx.mono hB
    · exact (h.row q hq).below hb
  refine ⟨ho.mono (by omega), fun q hq => (hall q hq).below hb2, fun q hq => ?_, ?_⟩
  · intro b h1 h2
    have := (ho.lt b h1).1; have := ((hall q hq).lt b h2).2; omega
  · refine hp.symm.pairwise ?_ (fun h => h.symm)
    rw [List.pairwise_cons]
    refine ⟨fun a ha => ?_, h.pw⟩
    intro k h1 h2
    have := ((h.row a ha).lt k h2).2; have := (hx.lt k h1).1; omega
theorem vN_map {zs : List (Value × List Int)} {j : Nat} (h : j < zs.length) : vN (zs.map (·.1)) j = (zs[j]).1 := by simp [vN, h]
theorem rN_map {zs : List (Value × List Int)} {j : Nat} (h : j < zs.length) : rN (zs.map (·.2)) j = (zs[j]).2 := by simp [rN, h]
theorem RZ.rr (h : RZ w B v zs) : RR w B v (zs.map (·.1)) (zs.map (·.2)) := by
  refine ⟨by simp, by simpa using h.own, fun j hj => ?_, fun j hj => ?_, fun i j hij hj => ?_⟩
  · simp at hj; rw [vN_map hj, rN_map hj]; exact h.rowAt j hj
  · simp at hj; rw [vN_map hj]; exact h.apv _ (List.getElem_mem hj)
  · simp at hj; rw [vN_map hj, vN_map (by omega)]; exact (List.pairwise_iff_getElem.1 h.pw) i j (by omega) hj hij
end
/-- 'append(out, more...)' of slices, at a step of a region that draws its order. -/
theorem step_appV {ops : Array Oper} {o : Oper} {a : Act} {K : Act → World → Prop} {Q : Exit → Act → World → Prop} {E : Prop} {W : World} {v : Value} {xs ys : List Value} {B n m g off cap : Nat} (s x : Operand)
    (hgd : o.guard = none) (ho : o.op = .call { callee := .builtin .append, args := #[s, x], argTypes := #[78, 78] }) (hs : a.eval s = v) (hx : a.eval x = .slice (some ⟨g, off, none⟩) m cap)
    (hown : OwnV 23 1 W B v n xs) (hB : B ≤ W.heap.size) (hy : ys.length = m) (hsrc : ∀ j u, ys[j]? = some u → W.cell? ⟨g, off + j, none⟩ = some u) (h1 : ∀ u ∈ ys, u.oneCell' = true) (hl : n + m ≤ 1048576)
    (h : ∀ v' w', OwnV 23 1 w' B v' (n + m) (xs ++ ys) → W.grownBy w' v.ownBlock → (v'.ownBlock = v.ownBlock ∨ v'.ownBlock = some W.heap.size) → K (a.put o.dst v') w') :
    if Region.wanted o (yielded ops a.tmps) = true then Oper.wp Tryz.prog o a W K Q else E := by
  have hw : Region.wanted o (yielded ops a.tmps) = true := by simp [Region.wanted, hgd]
  rw [if_pos hw]
  obtain ⟨i0, hi, hz1, hz2⟩ : ∃ i, Tryz.prog.info? 23 = some i ∧ i.size = 1 ∧ i.bytes = 24 := by
    have := rowSS.1
    cases hh : Tryz.prog.info? 23 with
    | none => rw [hh] at this; cases this
    | some i => rw [hh] at this; simp at this; exact ⟨i, rfl, this⟩
  obtain ⟨z, hz0, hzc⟩ : ∃ z, i0.zero = some z ∧ z.cells.size = 1 := by
    have := rowSS.2
    rw [hi] at this
    cases hh : i0.zero with
    | none => simp [hh] at this
    | some z => simp [hh] at this; exact ⟨z, rfl, this⟩
  obtain ⟨v', w', hr, h2, h3, _, h5⟩ := run_append_own_at (P := Tryz.prog) W B 78 o.type 23 i0 z 1 24 Tryz.underlying78 hi hz0 hz1 hz2 hzc (by omega) v n xs hown ⟨g, off, none⟩ m cap ys (by omega) (fun j u hj => by
    have hadd : (⟨g, off, none⟩ : Addr).add j = ⟨g, off + j, none⟩ := by unfold Addr.add; split <;> simp_all
    rw [hadd]; exact hsrc j u hj) h1 (by unfold maxLen; omega) (by omega) hB
  unfold Oper.wp execOp
  simp only [ho, resolve, invoke, builtin, Sem.run_bind, Sem.run_pure, Result.andThen_ok, List.map_toArray, List.map_cons, List.map_nil, hs, hx, hr]
  exact h v' w' h2 h3 h5
/-- .. and nothing has turned that was there at U. -/
theorem step_appU {ops : Array Oper} {o : Oper} {a : Act} {K : Act → World → Prop} {Q : Exit → Act → World → Prop} {E : Prop} {U W : World} {v : Value} {xs ys : List Value} {n m g off cap : Nat} (s x : Operand)
    (hgd : o.guard = none) (ho : o.op = .call { callee := .builtin .append, args := #[s, x], argTypes := #[78, 78] }) (hs : a.eval s = v) (hx : a.eval x = .slice (some ⟨g, off, none⟩) m cap)
    (hW : Below U.heap.size U W) (hown : OwnV 23 1 W U.heap.size v n xs) (hy : ys.length = m) (hsrc : ∀ j u, ys[j]? = some u → W.cell? ⟨g, off + j, none⟩ = some u) (h1 : ∀ u ∈ ys, u.oneCell' = true) (hl : n + m ≤ 1048576)
    (h : ∀ v' w', OwnV 23 1 w' U.heap.size v' (n + m) (xs ++ ys) → Below U.heap.size U w' → W.grownBy w' v.ownBlock → (v'.ownBlock = v.ownBlock ∨ v'.ownBlock = some W.heap.size) → K (a.put o.dst v') w') :
    if Region.wanted o (yielded ops a.tmps) = true then Oper.wp Tryz.prog o a W K Q else E :=
  step_appV s x hgd ho hs hx hown hW.size hy hsrc h1 hl fun v' w' h2 h3 h4 => h v' w' h2 (hW.grown h3 hW.size (fun q hq => (hown.lt q hq).1)) h3 h4
theorem one_src {W : World} {b : Nat} {x : Value} (h : W.cell? ⟨b, 0, none⟩ = some x) : ∀ j u, [x][j]? = some u → W.cell? ⟨b, 0 + j, none⟩ = some u := by
  intro j u hj
  match j, hj with
  | 0, hj => simp at hj; subst hj; exact h
end Go.Proofs.YtgojdlbidjnmmaaGreat
