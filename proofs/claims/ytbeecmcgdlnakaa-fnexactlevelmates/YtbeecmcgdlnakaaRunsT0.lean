import Derived.Test.YtbeecmcgdlnakaaRRLaw
namespace Go.Proofs.Ytbeecmcgdlnakaa
set_option linter.unusedSimpArgs false
set_option linter.unusedVariables false

theorem totTo_le {R : List (List Int)} {m : Nat} : ∀ i, (∀ j, j < i → (rN R j).length ≤ m) → totTo R i ≤ i * m
  | 0, _ => by simp [totTo]
  | i + 1, h => by
    have h1 := totTo_le i (fun j hj => h j (by omega))
    have h2 := h i (by omega)
    simp only [totTo]
    rw [Nat.add_mul]; omega
end Go.Proofs.Ytbeecmcgdlnakaa
