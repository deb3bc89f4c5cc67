import Derived.Test.YteefeciiaekdlaaPairRow
import Derived.Deep.RegionLaw
namespace Go.Proofs.Yteefeciiaekdlaa
open Go.ChangeShapes Go.WideShapes Go.ChangeAt Go.RowKit
set_option linter.unusedSimpArgs false

/-- 'out = append(out, pair)' as a step of a region that draws its order. -/
theorem step_ownP {ops : Array Oper} {o : Oper} {a : Act} {K : Act → World → Prop} {Q : Exit → Act → World → Prop} {E : Prop} {W : World} {T TS : TypeId} {v : Value} {l : List Int} {B n : Nat} {x0 x1 : Int} {ad : Nat} (s x : Operand) (hT : PairT T) (hTS : Try.prog.underlying TS = some (.slice T)) (hown : OwnP T W B v n l) (hl : n ≤ 1048576) (hB : B ≤ W.heap.size)
    (hc0 : W.cell? ⟨ad, 0, none⟩ = some (.int .i64 x0)) (hc1 : W.cell? ⟨ad, 1, none⟩ = some (.int .i64 x1))
    (hgd : o.guard = none) (ho : o.op = .call { callee := .builtin .append, args := #[s, x], argTypes := #[TS, TS] }) (hs : a.eval s = v) (hx : a.eval x = .slice (some ⟨ad, 0, none⟩) 1 1)
    (h : ∀ v' w', OwnP T w' B v' (n + 1) (l ++ [x0, x1]) → W.grownBy w' v.ownBlock → K (a.put o.dst v') w') :
    if Region.wanted o (yielded ops a.tmps) = true then Oper.wp Try.prog o a W K Q else E := by
  have hw : Region.wanted o (yielded ops a.tmps) = true := by simp [Region.wanted, hgd]
  rw [if_pos hw]
  obtain ⟨i0, hi, hz1, hz2⟩ : ∃ i, Try.prog.info? T = some i ∧ i.size = 2 ∧ i.bytes = 16 := by
    have := hT.1
    cases hh : Try.prog.info? T with
    | none => rw [hh] at this; cases this
    | some i => rw [hh] at this; simp at this; exact ⟨i, rfl, this⟩
  obtain ⟨z, hz0, hzc⟩ : ∃ z, i0.zero = some z ∧ z.cells.size = 2 := by
    have := hT.2
    rw [hi] at this
    cases hh : i0.zero with
    | none => simp [hh] at this
    | some z => simp [hh] at this; exact ⟨z, rfl, this⟩
  refine wp_append_own W s x TS ho B T i0 z 2 16 hTS hi hz0 hz1 hz2 hzc (by decide) v n (l.map (Value.int .i64)) hs hown ⟨ad, 0, none⟩ 1 1 [.int .i64 x0, .int .i64 x1] hx rfl ?_ ?_ ?_ ?_ hB ?_
  · intro j u hj
    match j, hj with
    | 0, hj => simp at hj; subst hj; simpa [Addr.add] using hc0
    | 1, hj => simp at hj; subst hj; simpa [Addr.add] using hc1
  · intro u hu; simp at hu; rcases hu with rfl | rfl <;> rfl
  · unfold maxLen; omega
  · omega
  · intro v' w' h1 h2 _
    refine h v' w' ?_ h2
    unfold OwnP; rw [List.map_append]; exact h1
end Go.Proofs.Yteefeciiaekdlaa
