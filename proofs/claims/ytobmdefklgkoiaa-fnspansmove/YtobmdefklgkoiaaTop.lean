import Derived.Test.YtobmdefklgkoiaaMem
namespace Go.Proofs.Ytobmdefklgkoiaa
open Go.ChangeShapes Go.WideShapes Go.ChangeAt Go.RowKit
set_option linter.unusedSimpArgs false

theorem below_new (w : World) (o : Obj) : Below w.heap.size w (w.alloc o) := (Below.refl _ _).alloc (Nat.le_refl _) o
theorem size_new (w : World) (o : Obj) : (w.alloc o).heap.size = w.heap.size + 1 := by simp
/-- What lies in the last block that was laid. -/
theorem top_cell {w w2 : World} {cs : Array Value} {T : TypeId} (h : Below (w.alloc (.cells cs T)).heap.size (w.alloc (.cells cs T)) w2) {B : Nat} (hB : B = w.heap.size) (j : Nat) {v : Value} (hv : cs[j]? = some v) : w2.cell? ⟨B, j, none⟩ = some v := by
  subst hB
  have hs : w.heap.size < (w.alloc (.cells cs T)).heap.size := by simp
  rw [h.cell (p := ⟨w.heap.size, j, none⟩) hs]
  simp [hv]
theorem top_frozen {w w2 : World} {cs : Array Value} {T : TypeId} (h : Below (w.alloc (.cells cs T)).heap.size (w.alloc (.cells cs T)) w2) {B : Nat} (hB : B = w.heap.size) (j : Nat) : w2.frozen? ⟨B, j, none⟩ = false := by
  subst hB
  have hs : w.heap.size < (w.alloc (.cells cs T)).heap.size := by simp
  rw [h.frozen (p := ⟨w.heap.size, j, none⟩) hs]
  rw [frozen?_alloc_cells]
  simp [World.frozen?]
theorem set_other {w : World} {b i j : Nat} {x : Value} {r : Option Value} (h : i ≠ j) (hw : w.cell? ⟨b, j, none⟩ = r) : (w.setCell ⟨b, i, none⟩ x).cell? ⟨b, j, none⟩ = r := by
  exact (World.cell?_setCell_other w ⟨b, i, none⟩ ⟨b, j, none⟩ x (fun e => h (congrArg Addr.off e))).trans hw
theorem set_far {w : World} {b c i j : Nat} {x : Value} {r : Option Value} (h : b ≠ c) (hw : w.cell? ⟨c, j, none⟩ = r) : (w.setCell ⟨b, i, none⟩ x).cell? ⟨c, j, none⟩ = r := by
  exact (World.cell?_setCell_other w ⟨b, i, none⟩ ⟨c, j, none⟩ x (fun e => h (congrArg Addr.block e))).trans hw
theorem set_here {w : World} {b i : Nat} {x u : Value} (hw : w.cell? ⟨b, i, none⟩ = some u) : (w.setCell ⟨b, i, none⟩ x).cell? ⟨b, i, none⟩ = some x := World.cell?_setCell_same _ _ _ hw
/-- Four cells of a block, stored one behind the other. -/
theorem four_set {w : World} {b : Nat} {u0 u1 u2 u3 x0 x1 x2 x3 : Value} (h0 : w.cell? ⟨b, 0, none⟩ = some u0) (h1 : w.cell? ⟨b, 1, none⟩ = some u1) (h2 : w.cell? ⟨b, 2, none⟩ = some u2) (h3 : w.cell? ⟨b, 3, none⟩ = some u3) :
    ((((w.setCell ⟨b, 0, none⟩ x0).setCell ⟨b, 1, none⟩ x1).setCell ⟨b, 2, none⟩ x2).setCell ⟨b, 3, none⟩ x3).cell? ⟨b, 0, none⟩ = some x0 ∧
    ((((w.setCell ⟨b, 0, none⟩ x0).setCell ⟨b, 1, none⟩ x1).setCell ⟨b, 2, none⟩ x2).setCell ⟨b, 3, none⟩ x3).cell? ⟨b, 1, none⟩ = some x1 ∧
    ((((w.setCell ⟨b, 0, none⟩ x0).setCell ⟨b, 1, none⟩ x1).setCell ⟨b, 2, none⟩ x2).setCell ⟨b, 3, none⟩ x3).cell? ⟨b, 2, none⟩ = some x2 ∧
    ((((w.setCell ⟨b, 0, none⟩ x0).setCell ⟨b, 1, none⟩ x1).setCell ⟨b, 2, none⟩ x2).setCell ⟨b, 3, none⟩ x3).cell? ⟨b, 3, none⟩ = some x3 := by
  refine ⟨?_, ?_, ?_, ?_⟩
  · exact set_other (by omega) (set_other (by omega) (set_other (by omega) (set_here h0)))
  · exact set_other (by omega) (set_other (by omega) (set_here (set_other (by omega) h1)))
  · exact set_other (by omega) (set_here (set_other (by omega) (set_other (by omega) h2)))
  · exact set_here (set_other (by omega) (set_other (by omega) (set_other (by omega) h3)))
end Go.Proofs.Ytobmdefklgkoiaa
