import Derived.Test.YtbjcdogbhnadkacImplOrder
namespace Go.Proofs.Ytbjcdogbhnadkac
open Go.ChangeShapes Go.WideShapes Go.ChangeAt Go.RowKit
set_option linter.unusedSimpArgs false

def ordR (lv : List Int) : List Int := if lvF (fn lv) lv.length = true then orderL lv else []
theorem ordR_len (lv : List Int) : (ordR lv).length ≤ 80 := by
  unfold ordR
  split
  · rename_i h
    unfold orderL
    rw [ordN_len]
    have := ord0_len (fn lv) lv.length; have := lvF_len h; omega
  · simp

set_option maxHeartbeats 1000000 in
theorem specOrd (v : Value) (l : List Int) (w : World) (hv : Arg w v l) (hl : l.length ≤ 4194304) :
    Calls Try.prog 22 #[v] w fun e w' => (∃ v', e = .returned v' ∧ OwnI w' w.heap.size v' (ordR l)) ∧ Below w.heap.size w w' := by
  cases hok : lvF (fn l) l.length
  · have HC : Hid (ordR l = []) := show ordR l = [] by simp [ordR, hok]
    go_enter Try.func22, Try.ntmps22
    go_wp2_with (go_at_call 52; refine (specLv _ _ _ hv hl).mono ?_; rintro e w' ⟨rfl, rfl⟩)
    go_ret
    exact ⟨⟨_, rfl, by rw [HC.out]; exact own_empty _ _ _ (Nat.le_refl _) rfl⟩, by go_grown⟩
  · have HC : Hid (ordR l = orderL l) := show ordR l = _ by simp [ordR, hok]
    have h80 := lvF_len hok
    have H22 : Hid (∀ j, j < l.length → fn l j ≤ 22) := fun j hj => by have := lvF_get hok hj; simp [lvl] at this; omega
    go_enter Try.func22, Try.ntmps22
    go_wp2_with (first | (go_at_call 52; refine (specLv _ _ _ hv hl).mono ?_; rintro e w' ⟨rfl, rfl⟩) | (go_at_call 53; refine (specOrder_any _ _ _ hv (by omega) H22).mono ?_; rintro e w2 ⟨⟨v', rfl, hown⟩, hbel⟩))
    go_ret
    exact ⟨⟨_, rfl, by rw [HC.out]; exact hown⟩, hbel⟩

set_option maxHeartbeats 1000000 in
theorem implOrd (v : Value) (l : List Int) (w : World) (hv : Arg w v l) (hl : l.length ≤ 4194304) :
    Calls Try.prog 20 #[v] w fun e w' => (∃ v', e = .returned v' ∧ OwnI w' w.heap.size v' (ordR l)) ∧ Below w.heap.size w w' := by
  cases hok : lvF (fn l) l.length
  · have HC : Hid (ordR l = []) := show ordR l = [] by simp [ordR, hok]
    have hv1 := hv.below (w' := w.alloc (.cells #[v] 23)) ((Below.refl _ _).alloc (Nat.le_refl _) _)
    have HO := implLv v l _ hv1 hl
    rw [hok] at HO
    rcases hv with ⟨a0, c0, rfl, rfl⟩ | ⟨b, off, cap, rfl, hb, hlc, hcm, hat⟩
    all_goals
      go_enter Try.func20, Try.ntmps20
      go_wp2_with (go_at_call 49; refine HO.mono ?_; rintro e w' ⟨rfl, rfl⟩)
      go_ret
      exact ⟨⟨_, rfl, by rw [HC.out]; exact OwnI.nil _ _⟩, by go_grown⟩
  · have HC : Hid (ordR l = orderL l) := show ordR l = _ by simp [ordR, hok]
    have h80 := lvF_len hok
    rcases hv with ⟨a0, c0, rfl, rfl⟩ | ⟨b, off, cap, rfl, hb, hlc, hcm, hat⟩
    · have HO := implLv (.slice a0 0 c0) [] (w.alloc (.cells #[.slice a0 0 c0] 23)) (.inl ⟨_, _, rfl, rfl⟩) hl
      rw [hok] at HO
      go_enter Try.func20, Try.ntmps20
      go_wp2_with (go_at_call 49; refine HO.mono ?_; rintro e w' ⟨rfl, rfl⟩)
      go_rounds 1
      go_rounds 1
      go_ret
      exact ⟨⟨_, rfl, OwnI.nil _ _⟩, by go_grown⟩
    · have HR := implOrder_row b off cap l.length l w rfl h80 hlc hcm hb hat hok
      rw [HC.out]
      exact HR
end Go.Proofs.Ytbjcdogbhnadkac
