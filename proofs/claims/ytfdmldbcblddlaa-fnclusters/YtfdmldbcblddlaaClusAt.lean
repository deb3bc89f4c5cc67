import Derived.Test.YtfdmldbcblddlaaClusAtI
import Derived.Test.YtfdmldbcblddlaaL2At
import Derived.Test.YtfdmldbcblddlaaImplStarts
namespace Go.Proofs.Ytfdmldbcblddlaa
open Go.ChangeShapes Go.WideShapes Go.ChangeAt Go.RowKit
set_option linter.unusedSimpArgs false

set_option maxHeartbeats 1000000 in
theorem specAt (v : Value) (l : List Int) (n : Nat) (a : Int) (a0 : Option Addr) (cap : Nat) (w : World) (hn : Hid (l.length = n)) (hva : v = .slice a0 n cap) (hv : Arg w v l) (hl : n ≤ 4194304) :
    Calls Try.prog 18 #[v, .int .i64 a] w fun e w' => e = .returned (.int .i64 (atR l a)) ∧ Below w.heap.size w w' := by
  have HO := specOk v l w hv (by rw [hn.out]; exact hl)
  cases hok : okF (fn l) l.length
  · have HR : Hid _ := atR_bad (a := a) hok
    rw [hok] at HO
    subst hva
    go_enter Try.func18, Try.ntmps18
    go_wp2_with (go_at_call 38; refine HO.mono ?_; rintro e w' ⟨rfl, rfl⟩)
    go_ret
    exact ⟨retInt HR.out.symm, Below.refl _ _⟩
  · rw [hok] at HO
    have hn0 := okF_len hok
    by_cases hin : 0 ≤ a ∧ a < (n : Int)
    · obtain ⟨p, rfl⟩ : ∃ p : Nat, a = (p : Int) := ⟨a.toNat, by omega⟩
      have HR : Hid _ := atR_yes hok (show p < l.length by rw [hn.out]; omega)
      have hB : inB (p : Int) 0 ((n : Int) - 1) = true := by simp [inB]; omega
      rcases hv with ⟨a1, c1, h1, h2⟩ | ⟨b, off, cap', hv1, hb, hlc, hcm, hat⟩
      · exfalso; have := hn.out; rw [h2] at this; simp at this; omega
      · rw [hn.out] at hv1
        subst hv1
        clear hva
        go_enter Try.func18, Try.ntmps18
        go_wp2_with (first | (go_at_call 38; refine HO.mono ?_; rintro e w' ⟨rfl, rfl⟩) | (go_at_call 44; refine (specIn _ _ _ _).mono ?_; rintro e w' ⟨rfl, rfl⟩) | (go_at_call 45; refine (specL2At b off cap' n l _ p _ hn.out hb hat hl rfl (by omega)).mono ?_; rintro e w2 ⟨rfl, hw2⟩))
        go_ret
        exact ⟨retInt HR.out.symm, hw2⟩
    · have HR : Hid _ := atR_out (l := l) (a := a) (by rw [hn.out]; exact hin)
      have hB : inB a 0 ((n : Int) - 1) = false := by simp [inB]; omega
      subst hva
      go_enter Try.func18, Try.ntmps18
      go_wp2_with (first | (go_at_call 38; refine HO.mono ?_; rintro e w' ⟨rfl, rfl⟩) | (go_at_call 44; refine (specIn _ _ _ _).mono ?_; rintro e w' ⟨rfl, rfl⟩))
      go_ret
      exact ⟨retInt HR.out.symm, Below.refl _ _⟩

end Go.Proofs.Ytfdmldbcblddlaa
