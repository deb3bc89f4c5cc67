import Derived.Test.YtobmdefklgkoiaaMem
import Derived.BigQuiet
namespace Go.Proofs.Ytobmdefklgkoiaa
open Go.ChangeShapes Go.WideShapes Go.ChangeAt Go.RowKit

/-- The worlds that have grown out of one: nothing old has turned. -/
def Gr (w : World) : Type := {w' : World // Below w.heap.size w w'}
/-- A region that draws its order, whose operations read and whose calls make memory of their own: one walk of the text's order serves every order. -/
theorem wp_region_grow {P : Program} {id : Nat} {Q : Exit → Act → World → Prop} {a : Act} {w : World} {l : List Oper} (hm : P.follows .mixedOrders = true) (hB : Region.lexB .any l.toArray = true)
    (h : Nonempty (Gr w) → wpQuiet P l.toArray (fun w' => ∃ u : Gr w, w' = u.1) (fun a' => ∀ w', (∃ u : Gr w, w' = u.1) → Q .normal a' w') l a) : (Code.region id l.toArray true).wp P Q a w :=
  wp_region_quiet (C := fun w' => ∃ u : Gr w, w' = u.1) hm hB ⟨⟨w.drewN 1, below_draws w 1⟩, rfl⟩ (by simpa using h ⟨⟨w, Below.refl _ _⟩⟩)
theorem Gr.cell {w : World} {b o : Nat} {v : Value} (h : w.cell? ⟨b, o, none⟩ = some v) (hb : b < w.heap.size) (u : Gr w) : u.1.cell? ⟨b, o, none⟩ = some v := (u.2.cell (p := ⟨b, o, none⟩) hb).trans h
theorem gr_out {w w' : World} (h : ∃ u : Gr w, w' = u.1) : Below w.heap.size w w' := by
  obtain ⟨u, rfl⟩ := h; exact u.2
/-- A callee's contract, met in a world that has grown. -/
theorem Calls.grow_of {P : Program} {f : FuncId} {args : Array Value} {w : World} {u : Gr w} {v : Value}
    (h : Calls P f args u.1 fun e w' => e = .returned v ∧ Below u.1.heap.size u.1 w') : Calls P f args u.1 fun e w'' => e = .returned v ∧ ∃ m : Gr w, w'' = m.1 :=
  h.mono fun _ w' ⟨he, hb⟩ => ⟨he, ⟨w', bstep u.2 hb⟩, rfl⟩
theorem Calls.grow_of_same {P : Program} {f : FuncId} {args : Array Value} {w : World} {u : Gr w} {v : Value}
    (h : Calls P f args u.1 fun e w' => e = .returned v ∧ w' = u.1) : Calls P f args u.1 fun e w'' => e = .returned v ∧ ∃ m : Gr w, w'' = m.1 :=
  h.mono fun _ _ ⟨he, hb⟩ => ⟨he, u, hb⟩
end Go.Proofs.Ytobmdefklgkoiaa
