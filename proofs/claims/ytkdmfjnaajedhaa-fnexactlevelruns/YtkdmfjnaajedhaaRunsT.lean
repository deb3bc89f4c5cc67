import Derived.Test.YtkdmfjnaajedhaaRunsL
import Derived.Test.YtkdmfjnaajedhaaRRLaw
namespace Go.Proofs.Ytkdmfjnaajedhaa
set_option linter.unusedSimpArgs false
set_option linter.unusedVariables false

theorem totTo_le {R : List (List Int)} {m : Nat} : ∀ i, (∀ j, j < i → (rN R j).length ≤ m) → totTo R i ≤ i * m
  | 0, _ => by simp [totTo]
  | i + 1, h => by
    have h1 := totTo_le i (fun j hj => h j (by omega))
    have h2 := h i (by omega)
    simp only [totTo]
    rw [Nat.add_mul]; omega
theorem runsR_all (l : List Int) (mt : Nat → Nat) (base : Int) (hmt : MateFn (cl l) l.length mt) : (runsR l mt base).length ≤ 80 ∧ totR (runsR l mt base) ≤ 6400 := by
  unfold runsR
  by_cases hq : okT l base = true
  · obtain ⟨_, hb01, h80⟩ := okT_out hq
    rw [if_pos hq]
    have hlen : (natR (runsTo (cl l) (fn (lvL (cl l) (fsF (cl l) mt) base l.length)) l.length mt l.length)).length ≤ l.length := by rw [natR_len]; exact runs_len _
    refine ⟨by omega, ?_⟩
    have ht := txt_told l mt hb01 hmt
    have h1 := totTo_le (R := natR (runsTo (cl l) (fn (lvL (cl l) (fsF (cl l) mt) base l.length)) l.length mt l.length)) (m := l.length) _ (fun j hj => (runs_row ht hj).2)
    unfold totR
    have h2 := Nat.mul_le_mul (Nat.le_trans hlen h80) h80
    omega
  · rw [if_neg hq]; simp [totR, totTo]
end Go.Proofs.Ytkdmfjnaajedhaa
