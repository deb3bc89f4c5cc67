import Derived.Test.YtanhmphmpobceaaClusAtM
import Derived.Test.YtanhmphmpobceaaJoins
namespace Go.Proofs.Ytanhmphmpobceaa
open Go.ChangeShapes Go.WideShapes Go.ChangeAt Go.RowKit
set_option linter.unusedSimpArgs false

set_option maxHeartbeats 1000000 in
theorem specL2At (b off cap n : Nat) (l : List Int) (a : Int) (p : Nat) (w : World) (hn : l.length = n) (hb : b < w.heap.size) (hat : At w b off l) (hl : n ≤ 4194304) (ha : a = (p : Int)) (hp : p < n) :
    Calls Try.prog 45 #[.slice (some ⟨b, off, none⟩) n cap, .int .i64 a] w fun e w' => e = .returned (.int .i64 (atOf (fn l) p : Int)) ∧ Below w.heap.size w w' := by
  subst ha
  go_enter Try.func45, Try.ntmps45
  go_wp2
  go_loopw [1] (fun i wr => ∃ k : Nat, k ≤ p ∧ i = .int .i64 k ∧ Hid (atOf (fn l) k = atOf (fn l) p) ∧ Below w.heap.size w wr) (fun i _ => (intOf i).toNat)
  case atStart => exact ⟨p, Nat.le_refl _, rfl, rfl, Below.refl _ _⟩
  case round =>
    obtain ⟨k, hk, rfl, hsame, hbel⟩ := hrel
    by_cases hk0 : k = 0
    · subst hk0
      go_wp2
      go_ret
      refine ⟨retInt ?_, hbel⟩
      rw [← hsame.out]; rfl
    · obtain ⟨q, rfl⟩ : ∃ q, k = q + 1 := ⟨k - 1, by omega⟩
      have hz : ((q + 1 : Nat) : Int) = (q : Int) + 1 := by omega
      cases hj : joins (fn l) (q + 1)
      · go_wp2_with (go_at_call 53; refine (specJoins b off cap n l _ q _ hn (Nat.lt_of_lt_of_le hb hbel.size) (hat.below hbel hb) hl hz (by omega)).mono ?_; rintro e w2 ⟨rfl, hw2⟩)
        go_ret
        refine ⟨retInt ?_, bstep hbel hw2⟩
        rw [← hsame.out, atOf_stop hj]; simp
      · go_wp2_with (go_at_call 53; refine (specJoins b off cap n l _ q _ hn (Nat.lt_of_lt_of_le hb hbel.size) (hat.below hbel hb) hl hz (by omega)).mono ?_; rintro e w2 ⟨rfl, hw2⟩)
        go_roundw
        case rel => exact ⟨q, by omega, by go_num, show atOf (fn l) q = _ by rw [← hsame.out, atOf_join hj], bstep hbel hw2⟩
        case measure => simp only [intOf]; omega

end Go.Proofs.Ytanhmphmpobceaa
