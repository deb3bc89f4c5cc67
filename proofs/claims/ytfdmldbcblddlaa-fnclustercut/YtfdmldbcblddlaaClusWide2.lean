import Derived.Test.YtfdmldbcblddlaaCWI
import Derived.Test.YtfdmldbcblddlaaClusAt
namespace Go.Proofs.Ytfdmldbcblddlaa
open Go.ChangeShapes Go.WideShapes Go.ChangeAt Go.RowKit
set_option linter.unusedSimpArgs false

set_option maxHeartbeats 2000000 in
theorem specCW (v : Value) (l : List Int) (n : Nat) (a W : Int) (a0 : Option Addr) (cap : Nat) (w : World) (hn : Hid (l.length = n)) (hva : v = .slice a0 n cap) (hv : Arg w v l) (hl : n ≤ 4194304) (hW : WideIs l a W) :
    Calls Try.prog 19 #[v, .int .i64 a] w fun e w' => e = .returned (.int .i64 W) ∧ Below w.heap.size w w' := by
  have HO := specOk v l w hv (by rw [hn.out]; exact hl)
  rcases hW with ⟨hok, rfl⟩ | ⟨hok, h, rfl⟩ | ⟨p, rfl, hok, hp, hb, rfl⟩ | ⟨p, e0, rfl, hok, hp, hb, hE, rfl⟩
  · rw [hok] at HO
    subst hva
    go_enter Try.func19, Try.ntmps19
    go_wp2_with (go_at_call 38; refine HO.mono ?_; rintro e w' ⟨rfl, rfl⟩)
    go_ret
    exact ⟨rfl, Below.refl _ _⟩
  · rw [hok] at HO
    rw [hn.out] at h
    have hB : inB a 0 ((n : Int) - 1) = false := by simp [inB]; omega
    subst hva
    go_enter Try.func19, Try.ntmps19
    go_wp2_with (first | (go_at_call 38; refine HO.mono ?_; rintro e w' ⟨rfl, rfl⟩) | (go_at_call 44; refine (specIn _ _ _ _).mono ?_; rintro e w' ⟨rfl, rfl⟩))
    go_ret
    exact ⟨rfl, Below.refl _ _⟩
  · rw [hok] at HO
    rw [hn.out] at hp
    have hB : inB (p : Int) 0 ((n : Int) - 1) = true := by simp [inB]; omega
    have hne : ((atOf (fn l) p : Int) != (p : Int)) = true := by
      have : atOf (fn l) p ≠ p := fun e => by rw [atOf_self, hb] at e; cases e
      simp; omega
    rcases hv with ⟨a1, c1, h1, h2⟩ | ⟨b, off, cap', hv1, hbw, hlc, hcm, hat⟩
    · exfalso; have := hn.out; rw [h2] at this; simp at this; omega
    · rw [hn.out] at hv1
      subst hv1
      clear hva
      go_enter Try.func19, Try.ntmps19
      go_wp2_with (first | (go_at_call 38; refine HO.mono ?_; rintro e w' ⟨rfl, rfl⟩) | (go_at_call 44; refine (specIn _ _ _ _).mono ?_; rintro e w' ⟨rfl, rfl⟩) | (go_at_call 45; refine (specL2At b off cap' n l _ p _ hn.out hbw hat hl rfl (by omega)).mono ?_; rintro e w2 ⟨rfl, hw2⟩))
      go_ret
      exact ⟨rfl, hw2⟩
  · rw [hok] at HO
    rw [hn.out] at hp hE
    have hB : inB (p : Int) 0 ((n : Int) - 1) = true := by simp [inB]; omega
    have hA : Hid (atOf (fn l) p = p) := (atOf_self _ _).2 hb
    rcases hv with ⟨a1, c1, h1, h2⟩ | ⟨b, off, cap', hv1, hbw, hlc, hcm, hat⟩
    · exfalso; have := hn.out; rw [h2] at this; simp at this; omega
    · rw [hn.out] at hv1
      subst hv1
      clear hva
      go_enter Try.func19, Try.ntmps19
      go_wp2_with (first | (go_at_call 38; refine HO.mono ?_; rintro e w' ⟨rfl, rfl⟩) | (go_at_call 44; refine (specIn _ _ _ _).mono ?_; rintro e w' ⟨rfl, rfl⟩) | (go_at_call 45; refine (specL2At b off cap' n l _ p _ hn.out hbw hat hl rfl (by omega)).mono ?_; rintro e w2 ⟨rfl, hw2⟩; rw [hA.out]) | (go_at_call 46; refine (specL2Wide b off cap' n l _ p e0 _ hn.out (Nat.lt_of_lt_of_le hbw hw2.size) (hat.below hw2 hbw) hl rfl (by omega) hE).mono ?_; rintro e w3 ⟨rfl, hw3⟩))
      go_ret
      exact ⟨rfl, bstep hw2 hw3⟩

end Go.Proofs.Ytfdmldbcblddlaa
