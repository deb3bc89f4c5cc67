import Derived.Test.YtanhmphmpobceaaSearch
import Derived.Test.YtanhmphmpobceaaImplStarts1
namespace Go.Proofs.Ytanhmphmpobceaa
open Go.ChangeShapes Go.WideShapes Go.ChangeAt Go.RowKit
set_option linter.unusedSimpArgs false

def atR (l : List Int) (a : Int) : Int := if okF (fn l) l.length = true ∧ 0 ≤ a ∧ a < (l.length : Int) then (atOf (fn l) a.toNat : Int) else -1

theorem atOf_join {z : Nat → Int} {k : Nat} (h : joins z (k + 1) = true) : atOf z (k + 1) = atOf z k := by simp [atOf, h]
theorem atOf_stop {z : Nat → Int} {k : Nat} (h : joins z (k + 1) = false) : atOf z (k + 1) = k + 1 := by simp [atOf, h]

theorem atR_yes {l : List Int} {p : Nat} (hok : okF (fn l) l.length = true) (hp : p < l.length) : atR l (p : Int) = (atOf (fn l) p : Int) := by
  unfold atR; rw [if_pos ⟨hok, by omega, by omega⟩]; simp
theorem atR_bad {l : List Int} {a : Int} (hok : okF (fn l) l.length = false) : atR l a = -1 := by
  unfold atR; rw [if_neg (by simp [hok])]
theorem atR_out {l : List Int} {a : Int} (h : ¬ (0 ≤ a ∧ a < (l.length : Int))) : atR l a = -1 := by
  unfold atR; rw [if_neg (fun h2 => h h2.2)]

theorem clus_ok {l : List Int} (h : okF (fn l) l.length = true) : clus l = starts (fn l) l.length := by simp [clus, h]
theorem clus_bad {l : List Int} (h : okF (fn l) l.length = false) : clus l = [] := by simp [clus, h]
theorem clus_up (l : List Int) : ∀ i j, i < j → j < (clus l).length → fn (clus l) i < fn (clus l) j := by
  intro i j h1 h2
  cases hok : okF (fn l) l.length
  · rw [clus_bad hok] at h2; simp at h2
  · rw [clus_ok hok] at h2 ⊢; exact starts_mono _ _ i j h1 h2
theorem clus_first {l : List Int} (hok : okF (fn l) l.length = true) (h : 0 < l.length) : 0 < (clus l).length := by
  rw [clus_ok hok]
  obtain ⟨i, hi, _⟩ := starts_idx (z := fn l) (n := l.length) (k := 0) h (by simp [begins])
  omega

end Go.Proofs.Ytanhmphmpobceaa
