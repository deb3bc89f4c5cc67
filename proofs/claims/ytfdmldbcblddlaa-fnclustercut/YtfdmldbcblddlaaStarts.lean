import Derived.Test.YtfdmldbcblddlaaJoins
import Derived.Test.YtfdmldbcblddlaaAppend
import Derived.Test.YtfdmldbcblddlaaStartsMath
namespace Go.Proofs.Ytfdmldbcblddlaa
open Go.ChangeShapes Go.WideShapes Go.ChangeAt Go.RowKit
set_option linter.unusedSimpArgs false

set_option maxHeartbeats 4000000 in
theorem specL2Starts (v : Value) (l : List Int) (w : World) (hv : Arg w v l) (hl : l.length ≤ 4194304) :
    Calls Try.prog 39 #[v] w fun e w' => (∃ v', e = .returned v' ∧ OwnI w' w.heap.size v' (starts (fn l) l.length)) ∧ Below w.heap.size w w' := by
  rcases hv with ⟨a0, c0, rfl, rfl⟩ | ⟨b, off, cap, rfl, hb, hlc, hcm, hat⟩
  · go_enter Try.func39, Try.ntmps39
    go_wp2
    go_rounds 1
    go_ret
    exact ⟨⟨_, rfl, own_empty _ _ _ (Nat.le_refl _) rfl⟩, by go_grown⟩
  · obtain ⟨n, hn⟩ : ∃ n, l.length = n := ⟨_, rfl⟩
    rw [hn] at hl ⊢
    go_enter Try.func39, Try.ntmps39
    go_wp2
    go_loopw [3, 4] (fun q i wr => ∃ k : Nat, k ≤ n ∧ i = .int .i64 k ∧ OwnI wr w.heap.size q (starts (fn l) k) ∧ Below w.heap.size w wr) (fun _ i _ => n - (intOf i).toNat)
    case atStart => exact ⟨0, Nat.zero_le _, rfl, own_empty _ _ _ (Nat.le_refl _) rfl, by go_grown⟩
    case round =>
      obtain ⟨k, hk, rfl, hown, hbel⟩ := hrel
      by_cases hlt : k < n
      · by_cases hk0 : k = 0
        · subst hk0
          go_wp2_with (first | (at_builtin; refine own_append (.tmp 20) (.tmp 22) hown (by simp [starts]) hbel.size rfl rfl rfl rfl ?_; intro v' w1 hown1 hgr1))
          go_roundw
          case rel => exact ⟨1, by omega, by go_num, hown1, grown_below hbel hgr1 hown (Nat.le_refl _) hbel.size⟩
          case measure => simp only [intOf]; omega
        · obtain ⟨p, rfl⟩ : ∃ p, k = p + 1 := ⟨k - 1, by omega⟩
          have hz : ((p + 1 : Nat) : Int) = (p : Int) + 1 := by omega
          have hne : (((p + 1 : Nat) : Int) == 0) = false := by simp; omega
          cases hj : joins (fn l) (p + 1)
          · have hbeg : begins (fn l) (p + 1) = true := by simp [begins, hj]
            have hle := starts_len (fn l) (p + 1)
            go_wp2_with (first | (go_at_call 69; refine (specJoins b off cap n l _ p _ hn (Nat.lt_of_lt_of_le hb hbel.size) (hat.below hbel hb) hl hz hlt).mono ?_; rintro e w2 ⟨rfl, hw2⟩) | (at_builtin; refine own_append (.tmp 20) (.tmp 22) (hown.below hw2) (by omega) (Nat.le_trans hbel.size hw2.size) rfl rfl rfl rfl ?_; intro v' w1 hown1 hgr1))
            go_roundw
            case rel => exact ⟨p + 1 + 1, by omega, by go_num, by rw [starts_yes hbeg, hz]; exact hown1, grown_below (hbel.trans (hw2.mono hbel.size)) hgr1 (hown.below hw2) (Nat.le_refl _) (Nat.le_trans hbel.size hw2.size)⟩
            case measure => simp only [intOf]; omega
          · have hbeg : begins (fn l) (p + 1) = false := by simp [begins, hj]
            go_wp2_with (first | (go_at_call 69; refine (specJoins b off cap n l _ p _ hn (Nat.lt_of_lt_of_le hb hbel.size) (hat.below hbel hb) hl hz hlt).mono ?_; rintro e w2 ⟨rfl, hw2⟩))
            go_roundw
            case rel => exact ⟨p + 1 + 1, by omega, by go_num, by rw [starts_no hbeg]; exact hown.below hw2, hbel.trans (hw2.mono hbel.size)⟩
            case measure => simp only [intOf]; omega
      · have e : k = n := by omega
        subst e
        go_wp2
        go_ret
        exact ⟨⟨_, rfl, hown⟩, hbel⟩
end Go.Proofs.Ytfdmldbcblddlaa
