import Derived.Test.YtanhmphmpobceaaImplJoin
import Derived.Test.YtanhmphmpobceaaStartsMath
import Derived.Test.YtanhmphmpobceaaAppend
namespace Go.Proofs.Ytanhmphmpobceaa
open Go.ChangeShapes Go.WideShapes Go.ChangeAt Go.RowKit
set_option linter.unusedSimpArgs false

def clus (l : List Int) : List Int := if okF (fn l) l.length = true then starts (fn l) l.length else []
theorem clus_len (l : List Int) : (clus l).length ≤ 80 := by
  unfold clus
  split
  · rename_i h; have := starts_len (fn l) l.length; have := okF_len h; omega
  · simp
theorem after_st (z : Nat → Int) (k : Nat) : after (st z k) (z k) = st z (k + 1) := rfl

set_option maxHeartbeats 1000000 in
theorem implStarts (v : Value) (l : List Int) (w : World) (hv : Arg w v l) (hl : l.length ≤ 4194304) :
    Calls Try.prog 30 #[v] w fun e w' => (∃ v', e = .returned v' ∧ OwnI w' w.heap.size v' (clus l)) ∧ Below w.heap.size w w' := by
  cases hok : okF (fn l) l.length
  · have HC : Hid (clus l = []) := show clus l = [] by simp [clus, hok]
    go_enter Try.func30, Try.ntmps30
    go_wp2_with (go_at_call 40; refine (implOk _ _ _ hv hl).mono ?_; rintro e w' ⟨rfl, rfl⟩)
    go_ret
    exact ⟨⟨_, rfl, by rw [HC.out]; exact OwnI.nil _ _⟩, Below.refl _ _⟩
  · have HC : Hid (clus l = starts (fn l) l.length) := show clus l = _ by simp [clus, hok]
    have hv2 := hv
    rcases hv with ⟨a0, c0, rfl, rfl⟩ | ⟨b, off, cap, rfl, hb, hlc, hcm, hat⟩
    · go_enter Try.func30, Try.ntmps30
      go_wp2_with (go_at_call 40; refine (implOk _ _ _ hv2 hl).mono ?_; rintro e w' ⟨rfl, rfl⟩)
      go_rounds 1
      go_ret
      exact ⟨⟨_, rfl, OwnI.nil _ _⟩, Below.refl _ _⟩
    · obtain ⟨n, hn⟩ : ∃ n, l.length = n := ⟨_, rfl⟩
      have hn80 : n ≤ 80 := by have := okF_len hok; omega
      have hl2 := hl
      have HO := implOk _ _ w hv2 hl2
      rw [hn] at HC HO hok hl ⊢
      go_enter Try.func30, Try.ntmps30
      go_wp2_with (go_at_call 40; refine HO.mono ?_; rintro e w' ⟨rfl, rfl⟩)
      go_loopw [3, 4, 12] (fun q s i wr => ∃ k : Nat, k ≤ n ∧ i = .int .i64 k ∧ s = .int .i64 (st (fn l) k) ∧ OwnI wr w'.heap.size q (starts (fn l) k) ∧ Below w'.heap.size w' wr) (fun _ _ i _ => n - (intOf i).toNat)
      case atStart => exact ⟨0, Nat.zero_le _, rfl, rfl, OwnI.nil _ _, Below.refl _ _⟩
      case round =>
        obtain ⟨k, hk, rfl, rfl, hown, hbel⟩ := hrel
        by_cases hlt : k < n
        · have hcell : wr.cell? ⟨b, off + k, none⟩ = some (.int .i64 (fn l k)) := (hat.below hbel hb) k (by omega)
          have hle := starts_len (fn l) k
          have hj := st_joins (fn l) k
          cases hbeg : begins (fn l) k
          · have hj2 : stJoins (st (fn l) k) (fn l k) = true := by rw [hj, hbeg]; rfl
            have HA : Hid _ := after_st (fn l) k
            clear hj
            go_wp2_with (first | (go_at_call 41; refine (implJoins _ _ _).mono ?_; rintro e w2 ⟨rfl, hw2⟩) | (go_at_call 42; refine (implAfter _ _ _).mono ?_; rintro e w3 ⟨rfl, rfl⟩))
            go_roundw
            case rel => exact ⟨k + 1, by omega, by go_num, by rw [HA.out], by rw [starts_no hbeg]; exact hown.below hw2, hbel.trans (hw2.mono hbel.size)⟩
            case measure => simp only [intOf]; omega
          · have hj2 : stJoins (st (fn l) k) (fn l k) = false := by rw [hj, hbeg]; rfl
            have HA : Hid _ := after_st (fn l) k
            clear hj
            go_wp2_with (first | (go_at_call 41; refine (implJoins _ _ _).mono ?_; rintro e w2 ⟨rfl, hw2⟩) | (go_at_call 42; refine (implAfter _ _ _).mono ?_; rintro e w3 ⟨rfl, rfl⟩) | (at_builtin; refine own_append (.tmp 21) (.tmp 23) (hown.below hw2) (by omega) (Nat.le_trans hbel.size hw2.size) rfl rfl rfl rfl ?_; intro v' w1 hown1 hgr1))
            go_roundw
            case rel => exact ⟨k + 1, by omega, by go_num, by rw [HA.out], by rw [starts_yes hbeg]; exact hown1, grown_below (hbel.trans (hw2.mono hbel.size)) hgr1 (hown.below hw2) (Nat.le_refl _) (Nat.le_trans hbel.size hw2.size)⟩
            case measure => simp only [intOf]; omega
        · have e : k = n := by omega
          subst e
          go_wp2
          go_ret
          exact ⟨⟨_, rfl, by rw [HC.out]; exact hown⟩, hbel⟩
end Go.Proofs.Ytanhmphmpobceaa
