import Derived.Test.YtgojdlbidjnmmaaGreatMtM
import Derived.Shelf.SlSortCmp.Whole1
namespace Go.Proofs.YtgojdlbidjnmmaaGreat
open Go.ChangeShapes Go.WideShapes Go.ChangeAt Go.RowKit
set_option linter.unusedSimpArgs false
set_option linter.unusedVariables false

/-- What the world is behind a sort of a row that is one's own. -/
theorem sorted_world {α : Type} [Inhabited α] {enc : α → Value} {T : TypeId} {w : World} {g n cap B N : Nat} {xs : List Value} {d' : Array α} {os : Array Obj} (h : OwnV T 1 w B (.slice (some ⟨g, 0, none⟩) N cap) N xs) (hd : d'.size = N) :
    OwnV T 1 (sortWorld enc w g 0 n d' os) B (.slice (some ⟨g, 0, none⟩) N cap) N (d'.toList.map enc) ∧ w.heap.size ≤ (sortWorld enc w g 0 n d' os).heap.size ∧ ∀ b, b < w.heap.size → b ≠ g → (sortWorld enc w g 0 n d' os).heap[b]? = w.heap[b]? := by
  have hsz : (Go.Sort.putRow enc (Go.Sort.ahead w n) g 0 d').heap.size = w.heap.size := by simp [Go.Sort.ahead]
  have hheap : (sortWorld enc w g 0 n d' os).heap = (Go.Sort.putRow enc (Go.Sort.ahead w n) g 0 d').heap ++ os := rfl
  refine ⟨⟨by simp [hd], .inr ?_⟩, by rw [hheap, Array.size_append, hsz]; omega, fun b hb hne => ?_⟩
  · rcases h.2 with ⟨e, _⟩ | ⟨g', cap', cur, e, h2, h3, h4, h5, h6, h7⟩
    · cases e
    · simp only [Value.slice.injEq, Option.some.injEq, Addr.mk.injEq] at e
      obtain ⟨⟨rfl, _⟩, _, rfl⟩ := e
      have hg : g < w.heap.size := (Array.getElem?_eq_some_iff.1 h3).1
      refine ⟨g, cap, Go.Sort.putCells enc 0 d' cur, rfl, h2, ?_, h4, h5, by simp [Go.Sort.putCells, h6], ?_⟩
      · rw [hheap, Array.getElem?_append_left (by rw [hsz]; exact hg)]
        simp [Go.Sort.putRow, Go.Sort.mapBlock, Go.Sort.ahead, Array.getElem?_modify, h3, Go.Sort.onCells]
      · apply List.ext_getElem
        · simp [Go.Sort.putCells, h6, hd]; omega
        · intro j hj1 hj2
          have hj : j < d'.size := by simpa using hj2
          simp [Go.Sort.putCells, hj]
  · rw [hheap, Array.getElem?_append_left (by rw [hsz]; exact hb)]
    have hne2 : ¬ g = b := fun e => hne e.symm
    simp [Go.Sort.putRow, Go.Sort.mapBlock, Go.Sort.ahead, Array.getElem?_modify, hne2]
/-- The same rows in another order. -/
theorem RZ.perm {w w' : World} {B : Nat} {v : Value} {zs zs' : List (Value × List Int)} (h : RZ w B v zs) (hp : zs'.Perm zs) (ho : OwnV 23 1 w' B v zs'.length (zs'.map (·.1))) (hk : ∀ b, b < w.heap.size → v.ownBlock ≠ some b → w'.heap[b]? = w.heap[b]?) : RZ w' B v zs' :=
  ⟨ho, fun q hq => (h.row q (hp.mem_iff.1 hq)).kept (fun b hb => hk b ((h.row q (hp.mem_iff.1 hq)).lt b hb).2 (fun e => h.apv q (hp.mem_iff.1 hq) b e hb)), fun q hq => h.apv q (hp.mem_iff.1 hq), hp.symm.pairwise h.pw (fun h => h.symm)⟩
end Go.Proofs.YtgojdlbidjnmmaaGreat
