import Derived.Test.YtanhmphmpobceaaDraw4
import Derived.Test.YtanhmphmpobceaaBytesRow
namespace Go.Proofs.Ytanhmphmpobceaa
open Go.ChangeShapes Go.WideShapes Go.ChangeAt Go.RowKit
set_option linter.unusedSimpArgs false

set_option maxHeartbeats 4000000 in
theorem words_any (R p : Nat) (w : World) (hr : Rd w R p) (hp : p ≤ 80000) :
    Calls Try.prog 29 #[.pointer (some ⟨R, 0, none⟩)] w fun e w' => (∃ v l, e = .returned v ∧ OwnI w' w.heap.size v l ∧ l.length ≤ 80) ∧ ∃ p', p' ≤ p + 300 ∧ Went w w' R p' := by
  have hlt := hr.lt
  go_enter Try.func29, Try.ntmps29
  go_wp2_with fail
  refine (pick_went R p _ _ hr (by omega) (by omega) (by omega)).mono ?_
  rintro e w1 ⟨⟨n, rfl, hn⟩, hW, hsz⟩
  clear hsz
  have hs1 := hW.gr.size
  by_cases h0 : n = 0
  · subst h0
    go_wp2_with fail
    refine (runes_any R (p + 1) _ hW.rd (by omega)).mono ?_
    rintro e w2 ⟨⟨v, l, rfl, hown, hlen⟩, p2, hp2, hW2⟩
    go_wp2_with fail
    go_ret
    exact ⟨⟨_, l, rfl, hown.mono hs1, hlen⟩, p2, by omega, hW.trans hW2⟩
  · have h0b : ((n : Int) == 0) = false := by simp; omega
    go_wp2_with fail
    refine (pick_went R (p + 1) _ _ (hW.rd.alloc _) (by omega) (by omega) (by omega)).mono ?_
    rintro e w2 ⟨⟨m, rfl, hm⟩, hW2, hsz⟩
    have hW0 : Went w w2 R (p + 1 + 1) := hW.trans ⟨hW2.rd, grown_trans (grown_alloc w1 _ _) hW2.gr⟩
    have hO : OwnI w2 w.heap.size (.slice (some ⟨w1.heap.size, 0, none⟩) 0 0) [] := (own_empty w1 w.heap.size 3 hs1 rfl).went hW2 hlt
    clear hW2 hsz hW
    go_wp2_with fail
    go_loopw [3, 4] (fun q i wr => ∃ (k : Nat) (l : List Int) (p' : Nat), i = .int .i64 k ∧ OwnI wr w.heap.size q l ∧ l.length + 5 * k ≤ 45 ∧ p' + 6 * k ≤ p + 56 ∧ Went w wr R p') (fun _ i _ => (intOf i).toNat)
    case atStart => exact ⟨m + 1, [], p + 1 + 1, by go_num, hO, by simp; omega, by omega, hW0⟩
    case round =>
      obtain ⟨k, l, p', rfl, hown, hlen, hpp, hwent⟩ := hrel
      by_cases hk : k = 0
      · subst hk
        go_wp2_with fail
        go_ret
        exact ⟨⟨_, l, rfl, hown, by omega⟩, p', by omega, hwent⟩
      · obtain ⟨j, rfl⟩ : ∃ j, k = j + 1 := ⟨k - 1, by omega⟩
        go_wp2_with fail
        refine (pick_went R p' _ _ hwent.rd (by omega) (by omega) (by omega)).mono ?_
        rintro e w3 ⟨⟨c, rfl, hc⟩, hW3, hsz3⟩
        have hW4 := hwent.trans hW3
        have hown4 := hown.went hW3 hlt
        clear hW3 hsz3
        go_wp2_with fail
        go_loopw [3, 5] (fun q i wr => ∃ (k : Nat) (l : List Int) (p' : Nat), i = .int .i64 k ∧ OwnI wr w.heap.size q l ∧ l.length + k + 5 * j ≤ 44 ∧ p' + k + 6 * j ≤ p + 56 - 1 ∧ Went w wr R p') (fun _ i _ => (intOf i).toNat)
        case atStart => exact ⟨c + 1, l, p' + 1, by go_num, hown4, by omega, by omega, hW4⟩
        case round =>
          clear hown4 hW4 hown hlen hpp hwent hc
          obtain ⟨k, l, p', rfl, hown, hlen, hpp, hwent⟩ := hrel
          have hR := hwent.rd
          by_cases hk : k = 0
          · subst hk
            go_wp2_with fail
            refine (one_any R p' _ _ _ _ hR (by omega) (by kernel_rfl) (by rfl) (by omega) (by omega)).mono ?_
            rintro e w4 ⟨⟨x, rfl⟩, hW4⟩
            have hW5 := hwent.trans hW4
            have hown4 := hown.went hW4 hlt
            have hs4 := hW5.gr.size
            clear hW4
            go_wp2_with (at_builtin; refine own_append (.tmp 32) (.tmp 36) hown4 (by omega) hs4 rfl rfl rfl rfl ?_; intro v' w5 hown5 hgr5)
            go_roundw
            case rel => exact ⟨j, l ++ [x], p' + 1, by go_num, hown5, by simp; omega, by omega, hW5.own hgr5 hown4 (Nat.le_refl _) hlt⟩
            case measure => simp only [intOf]; omega
          · obtain ⟨i, rfl⟩ : ∃ i, k = i + 1 := ⟨k - 1, by omega⟩
            go_wp2_with fail
            refine (one_any R p' _ _ _ _ hR (by omega) (by kernel_rfl) (by rfl) (by omega) (by omega)).mono ?_
            rintro e w4 ⟨⟨x, rfl⟩, hW4⟩
            have hW5 := hwent.trans hW4
            have hown4 := hown.went hW4 hlt
            have hs4 := hW5.gr.size
            clear hW4
            go_wp2_with (at_builtin; refine own_append (.tmp 26) (.tmp 30) hown4 (by omega) hs4 rfl rfl rfl rfl ?_; intro v' w5 hown5 hgr5)
            go_roundw
            case rel => exact ⟨i, l ++ [x], p' + 1, by go_num, hown5, by simp; omega, by omega, hW5.own hgr5 hown4 (Nat.le_refl _) hlt⟩
            case measure => simp only [intOf]; omega
end Go.Proofs.Ytanhmphmpobceaa
