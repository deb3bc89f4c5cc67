import Derived.Test.YtobmdefklgkoiaaAppend
import Derived.Maps.AppendAt
namespace Go.Proofs.Ytobmdefklgkoiaa
open Go.ChangeShapes Go.WideShapes Go.ChangeAt Go.RowKit
set_option linter.unusedSimpArgs false

/-- As own_append, and where the new row lies. -/
theorem own_append_at {ops : Array Oper} {rest : List Oper} {o : Oper} {a : Act} {Q : Exit → Act → World → Prop} {wr : World} {T : TypeId} {v : Value} {l : List Int} {B : Nat} {xv : Int} (s x : Operand) (hown : OwnI wr B v l) (hl : l.length ≤ 1073741824) (hB : B ≤ wr.heap.size)
    (hgd : o.guard = none) (ho : o.op = .call { callee := .builtin .append, args := #[s, x], argTypes := #[67, 67] }) (hs : a.eval s = v) 
    (hx : a.eval x = .slice (some ⟨wr.heap.size, 0, none⟩) 1 1)
    (h : ∀ v' w', OwnI w' B v' (l ++ [xv]) → wr.grownBy w' v.ownBlock → (v'.ownBlock = v.ownBlock ∨ v'.ownBlock = some (wr.heap.size + 1)) → wpList Try.prog ops Q rest (a.put o.dst v') w') :
    wpList Try.prog ops Q (o :: rest) a (wr.alloc (.cells #[.int .i64 xv] T)) := by
  obtain ⟨i0, hi, hz0, hz1, hz2⟩ := info_parts infoI
  refine wpList_append_own_at _ hgd s x 67 ho B 3 i0 (.int .i64 0) 1 8 Try.underlying67 hi hz0 hz1 hz2 rfl (by decide) v l.length (l.map (Value.int .i64)) hs (World.ownsRow.alloc hown _) ⟨wr.heap.size, 0, none⟩ 1 1 [.int .i64 xv] hx rfl ?_ ?_ ?_ ?_ ?_ ?_
  · intro j u hj
    match j, hj with
    | 0, hj => simp at hj; subst hj; simp [Addr.add]
  · intro u hu; simp at hu; subst hu; rfl
  · unfold maxLen; omega
  · omega
  · simp; omega
  · intro v' w' h1 h2 _ h3
    refine h v' w' ?_ ?_ ?_
    · unfold OwnI; rw [List.length_append, List.map_append]; exact h1
    · refine ⟨h2.os, h2.tape, h2.output, ?_, fun k hk hne => ?_⟩
      · have := h2.size; simp at this; omega
      · rw [h2.block k (by simp; omega) hne]; exact Below.heap_alloc wr _ k hk
    · simpa using h3

/-- Two rows that lie apart. -/
def Apart (v u : Value) : Prop := ∀ k, v.ownBlock = some k → u.ownBlock ≠ some k
theorem Apart.symm {v u : Value} (h : Apart v u) : Apart u v := fun k hk e => h k e hk
theorem Apart.next {w : World} {v v' u : Value} {B : Nat} {l : List Int} (h : Apart v u) (hu : OwnI w B u l) (h3 : v'.ownBlock = v.ownBlock ∨ v'.ownBlock = some (w.heap.size + 1)) : Apart v' u := by
  intro k hk e
  rcases h3 with h3 | h3
  · exact h k (by rw [← h3]; exact hk) e
  · rw [hk] at h3; have := (hu.lt k e).2; simp at h3; omega
theorem OwnI.apart {w w' : World} {v u : Value} {l : List Int} {B : Nat} (h : OwnI w B v l) (hg : w.grownBy w' u.ownBlock) (ha : Apart u v) : OwnI w' B v l :=
  h.kept fun k hk => hg.block k (h.lt k hk).2 (fun e => ha k e.symm hk)
end Go.Proofs.Ytobmdefklgkoiaa
