import Derived.Test.YtobmdefklgkoiaaSpanRow
import Derived.Deep.RegionLaw
namespace Go.Proofs.Ytobmdefklgkoiaa
open Go.ChangeShapes Go.WideShapes Go.ChangeAt Go.RowKit
set_option linter.unusedSimpArgs false

/-- 'out = append(out, Span{..})' as a step of a region that draws its order. -/
theorem step_ownS {ops : Array Oper} {o : Oper} {a : Act} {K : Act → World → Prop} {Q : Exit → Act → World → Prop} {E : Prop} {W : World} {v : Value} {l : List Int} {B n : Nat} {x0 x1 x2 x3 : Int} {ad : Nat} (s x : Operand) (hown : OwnS W B v n l) (hl : n ≤ 1048576) (hB : B ≤ W.heap.size)
    (hc0 : W.cell? ⟨ad, 0, none⟩ = some (.int .i64 x0)) (hc1 : W.cell? ⟨ad, 1, none⟩ = some (.int .i64 x1)) (hc2 : W.cell? ⟨ad, 2, none⟩ = some (.int .i64 x2)) (hc3 : W.cell? ⟨ad, 3, none⟩ = some (.int .i64 x3))
    (hgd : o.guard = none) (ho : o.op = .call { callee := .builtin .append, args := #[s, x], argTypes := #[23, 23] }) (hs : a.eval s = v) (hx : a.eval x = .slice (some ⟨ad, 0, none⟩) 1 1)
    (h : ∀ v' w', OwnS w' B v' (n + 1) (l ++ [x0, x1, x2, x3]) → W.grownBy w' v.ownBlock → K (a.put o.dst v') w') :
    if Region.wanted o (yielded ops a.tmps) = true then Oper.wp Try.prog o a W K Q else E := by
  have hw : Region.wanted o (yielded ops a.tmps) = true := by simp [Region.wanted, hgd]
  rw [if_pos hw]
  obtain ⟨i0, hi, hz1, hz2⟩ : ∃ i, Try.prog.info? 32 = some i ∧ i.size = 4 ∧ i.bytes = 32 := by
    have := infoS
    cases hh : Try.prog.info? 32 with
    | none => rw [hh] at this; cases this
    | some i => rw [hh] at this; simp at this; exact ⟨i, rfl, this⟩
  obtain ⟨z, hz0, hzc⟩ : ∃ z, i0.zero = some z ∧ z.cells.size = 4 := by
    have := infoSz
    rw [hi] at this
    cases hh : i0.zero with
    | none => simp [hh] at this
    | some z => simp [hh] at this; exact ⟨z, rfl, this⟩
  refine wp_append_own W s x 23 ho B 32 i0 z 4 32 Try.underlying23 hi hz0 hz1 hz2 hzc (by decide) v n (l.map (Value.int .i64)) hs hown ⟨ad, 0, none⟩ 1 1 [.int .i64 x0, .int .i64 x1, .int .i64 x2, .int .i64 x3] hx rfl ?_ ?_ ?_ ?_ hB ?_
  · intro j u hj
    match j, hj with
    | 0, hj => simp at hj; subst hj; simpa [Addr.add] using hc0
    | 1, hj => simp at hj; subst hj; simpa [Addr.add] using hc1
    | 2, hj => simp at hj; subst hj; simpa [Addr.add] using hc2
    | 3, hj => simp at hj; subst hj; simpa [Addr.add] using hc3
  · intro u hu; simp at hu; rcases hu with rfl | rfl | rfl | rfl <;> rfl
  · unfold maxLen; omega
  · omega
  · intro v' w' h1 h2 _
    refine h v' w' ?_ h2
    unfold OwnS; rw [List.map_append]; exact h1
end Go.Proofs.Ytobmdefklgkoiaa
