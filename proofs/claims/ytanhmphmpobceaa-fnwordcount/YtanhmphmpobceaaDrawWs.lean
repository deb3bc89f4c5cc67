import Derived.Test.YtanhmphmpobceaaDrawWd
namespace Go.Proofs.Ytanhmphmpobceaa
open Go.ChangeShapes Go.WideShapes Go.ChangeAt Go.RowKit
set_option linter.unusedSimpArgs false

set_option maxHeartbeats 1000000 in
theorem drawWS (a : Option Addr) (len cap : Nat) (w : World) (h : Bytes w a len cap) :
    Calls Try.prog 9 #[.slice a len cap] w fun e w' => (∃ v l, e = .returned v ∧ OwnI w' w.heap.size v l ∧ l.length ≤ 81) ∧ Below w.heap.size w w' := by
  go_enter Try.func9, Try.ntmps9
  go_wp2_with fail
  refine (open_any a len cap w h).mono ?_
  rintro e w1 ⟨rfl, hr, hb⟩
  have hl1 := hr.lt
  go_wp2_with fail
  refine (pick_went _ 0 _ _ hr (by omega) (by omega) (by omega)).mono ?_
  rintro e w2 ⟨⟨n, rfl, hn⟩, hW, hsz⟩
  have hs1 := hW.gr.size
  clear hsz
  by_cases h0 : n = 0
  · subst h0
    go_wp2_with fail
    refine (any_any _ (0 + 1) _ hW.rd (by omega)).mono ?_
    rintro e w3 ⟨⟨v, l, rfl, hown, hlen⟩, p, hp, hW3⟩
    go_wp2_with fail
    go_ret
    exact ⟨⟨_, l, rfl, hown.mono (by omega), hlen⟩, hb.trans ((hW.trans hW3).below (Nat.le_refl _) hl1)⟩
  · have h0b : ((n : Int) == 0) = false := by simp; omega
    go_wp2_with fail
    refine (words_any _ (0 + 1) _ hW.rd (by omega)).mono ?_
    rintro e w3 ⟨⟨v, l, rfl, hown, hlen⟩, p, hp, hW3⟩
    go_wp2_with fail
    go_ret
    exact ⟨⟨_, l, rfl, hown.mono (by omega), by omega⟩, hb.trans ((hW.trans hW3).below (Nat.le_refl _) hl1)⟩
end Go.Proofs.Ytanhmphmpobceaa
