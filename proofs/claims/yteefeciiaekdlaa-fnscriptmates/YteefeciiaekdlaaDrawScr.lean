import Derived.Test.YteefeciiaekdlaaDraw4
namespace Go.Proofs.Yteefeciiaekdlaa
open Go.ChangeShapes Go.WideShapes Go.ChangeAt Go.RowKit
set_option linter.unusedSimpArgs false

set_option maxHeartbeats 2000000 in
theorem drawScr (a : Option Addr) (len cap : Nat) (w : World) (h : Bytes w a len cap) :
    Calls Try.prog 9 #[.slice a len cap] w fun e w' => (∃ v l, e = .returned v ∧ OwnI w' w.heap.size v l ∧ l.length ≤ 81) ∧ Below w.heap.size w w' := by
  go_enter Try.func9, Try.ntmps9
  go_wp2_with fail
  refine (open_any a len cap w h).mono ?_
  rintro e w1 ⟨rfl, hr, hb⟩
  have hl1 := hr.lt
  go_wp2_with fail
  refine (pick_went _ 0 _ _ hr (by omega) (by omega) (by omega)).mono ?_
  rintro e w2 ⟨⟨n, rfl, hn⟩, hW, hsz⟩
  have hs1 := hW.gr.size
  clear hsz
  by_cases h0 : n = 0
  · subst h0
    go_wp2_with fail
    refine (any_any _ (0 + 1) _ hW.rd (by omega)).mono ?_
    rintro e w3 ⟨⟨v, l, rfl, hown, hlen⟩, p, hp, hW3⟩
    go_wp2_with fail
    go_ret
    exact ⟨⟨_, l, rfl, hown.mono (by omega), hlen⟩, hb.trans ((hW.trans hW3).below (Nat.le_refl _) hl1)⟩
  · have h0b : ((n : Int) == 0) = false := by simp; omega
    go_wp2_with fail
    refine (pick_went _ (0 + 1) _ _ (hW.rd.alloc _) (by omega) (by omega) (by omega)).mono ?_
    rintro e w3 ⟨⟨m, rfl, hm⟩, hW2, hsz⟩
    have hW0 : Went w1 w3 w.heap.size (0 + 1 + 1) := hW.trans ⟨hW2.rd, grown_trans (grown_alloc w2 _ _) hW2.gr⟩
    have hO : OwnI w3 w1.heap.size (.slice (some ⟨w2.heap.size, 0, none⟩) 0 0) [] := (own_empty w2 w1.heap.size 3 hs1 rfl).went hW2 hl1
    clear hW2 hsz hW
    go_wp2_with fail
    go_loopw [4, 5] (fun q i wr => ∃ (k : Nat) (l : List Int) (p' : Nat), i = .int .i64 k ∧ OwnI wr w1.heap.size q l ∧ l.length + k ≤ 13 ∧ p' + k ≤ 20 ∧ Went w1 wr w.heap.size p') (fun _ i _ => (intOf i).toNat)
    case atStart => exact ⟨m, [], 0 + 1 + 1, rfl, hO, by simp; omega, by omega, hW0⟩
    case round =>
      clear hW0 hO
      obtain ⟨k, l, p', rfl, hown, hlen, hpp, hwent⟩ := hrel
      have hR := hwent.rd
      by_cases hk : k = 0
      · subst hk
        go_wp2_with fail
        go_ret
        exact ⟨⟨_, l, rfl, hown.mono (by omega), by omega⟩, hb.trans (hwent.below (Nat.le_refl _) hl1)⟩
      · obtain ⟨i, rfl⟩ : ∃ i, k = i + 1 := ⟨k - 1, by omega⟩
        go_wp2_with fail
        refine (one_any w.heap.size p' _ _ _ _ hR (by omega) (by kernel_rfl) (by rfl) (by omega) (by omega)).mono ?_
        rintro e w4 ⟨⟨x, rfl⟩, hW4⟩
        have hW5 := hwent.trans hW4
        have hown4 := hown.went hW4 hl1
        have hs4 := hW5.gr.size
        clear hW4
        go_wp2_with (at_builtin; refine own_append (.tmp 20) (.tmp 24) hown4 (by omega) hs4 rfl rfl rfl rfl ?_; intro v' w5 hown5 hgr5)
        go_roundw
        case rel => exact ⟨i, l ++ [x], p' + 1, by go_num, hown5, by simp; omega, by omega, hW5.own hgr5 hown4 (Nat.le_refl _) hl1⟩
        case measure => simp only [intOf]; omega

set_option maxHeartbeats 1000000 in
theorem drawScrR (a : Option Addr) (len cap : Nat) (w : World) (h : Bytes w a len cap) :
    Calls Try.prog 16 #[.slice a len cap] w fun e w' => (∃ v l, e = .returned v ∧ OwnI w' w.heap.size v l ∧ l.length ≤ 81) ∧ Below w.heap.size w w' := by
  go_enter Try.func16, Try.ntmps16
  go_wp2_with fail
  refine (drawScr a len cap w h).mono ?_
  rintro e w1 ⟨⟨v, l, rfl, ho, hl⟩, hb⟩
  go_wp2_with fail
  go_ret
  exact ⟨⟨_, l, rfl, ho, hl⟩, hb⟩
end Go.Proofs.Yteefeciiaekdlaa
