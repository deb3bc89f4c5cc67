import Derived.Test.YtbjcdogbhnadkacDrawW
namespace Go.Proofs.Ytbjcdogbhnadkac
open Go.ChangeShapes Go.WideShapes Go.ChangeAt Go.RowKit
set_option linter.unusedSimpArgs false

theorem four_get {w : World} {R : Nat} {a b c d : Int} {k : Nat} {T : TypeId} (h : w.heap[R]? = some (.cells #[.int .i64 a, .int .i64 b, .int .i64 c, .int .i64 d] T (0, 0))) (hk : k < 4) : ∃ x : Int, w.cell? ⟨R, k, none⟩ = some (.int .i64 x) := by
  rw [cell_of_row w R k _ _ _ h]
  rcases (by omega : k = 0 ∨ k = 1 ∨ k = 2 ∨ k = 3) with e | e | e | e
  all_goals (subst e; exact ⟨_, rfl⟩)

set_option maxHeartbeats 4000000 in
theorem levels_any (R p : Nat) (w : World) (hr : Rd w R p) (hp : p ≤ 90000) :
    Calls Try.prog 48 #[.pointer (some ⟨R, 0, none⟩)] w fun e w' => (∃ v l, e = .returned v ∧ OwnI w' w.heap.size v l ∧ l.length ≤ 80) ∧ ∃ p', p' ≤ p + 200 ∧ Went w w' R p' := by
  have hlt := hr.lt
  go_enter Try.func48, Try.ntmps48
  go_wp2_with fail
  refine (pick_went R p _ _ (hr.alloc _) (by omega) (by omega) (by omega)).mono ?_
  rintro e w1 ⟨⟨n, rfl, hn⟩, hW, hsz⟩
  have hW0 : Went w w1 R (p + 1) := ⟨hW.rd, grown_trans (grown_alloc w _ _) hW.gr⟩
  have hO : OwnI w1 w.heap.size (.slice (some ⟨w.heap.size, 0, none⟩) 0 0) [] := (own_empty w w.heap.size 3 (Nat.le_refl _) rfl).went hW hlt
  clear hW hsz
  go_wp2_with fail
  go_loopw [3, 4] (fun q i wr => ∃ (k : Nat) (l : List Int) (p' : Nat), i = .int .i64 k ∧ OwnI wr w.heap.size q l ∧ l.length + k ≤ 23 ∧ p' + 4 * k ≤ p + 90 ∧ Went w wr R p') (fun _ i _ => (intOf i).toNat)
  case atStart => exact ⟨n, [], p + 1, rfl, hO, by simp; omega, by omega, hW0⟩
  case round =>
    obtain ⟨k, l, p', rfl, hown, hlen, hpp, hwent⟩ := hrel
    have hsz := hwent.gr.size
    by_cases hk : k = 0
    · subst hk
      go_wp2_with fail
      refine (pick_went R p' _ _ hwent.rd (by omega) (by omega) (by omega)).mono ?_
      rintro e w2 ⟨⟨m, rfl, hm⟩, hW2, hsz2⟩
      have hW3 := hwent.trans hW2
      have hown2 := hown.went hW2 hlt
      clear hW2 hsz2
      by_cases hm0 : m = 0
      · subst hm0
        have hR := hW3.rd
        go_wp2_with fail
        refine (one_any R (p' + 1) _ _ _ _ hR (by omega) (by kernel_rfl) (by rfl) (by omega) (by omega)).mono ?_
        rintro e w4 ⟨⟨x, rfl⟩, hW4⟩
        have hW5 := hW3.trans hW4
        have hown4 := hown2.went hW4 hlt
        have hs4 := hW5.gr.size
        clear hW4
        go_wp2_with (at_builtin; refine own_append (.tmp 31) (.tmp 35) hown4 (by omega) hs4 rfl rfl rfl rfl ?_; intro v' w5 hown5 hgr5)
        go_ret
        exact ⟨⟨_, _, rfl, hown5, by simp; omega⟩, p' + 1 + 1, by omega, hW5.own hgr5 hown4 (Nat.le_refl _) hlt⟩
      · have hmb : ((m : Int) == 0) = false := by simp; omega
        go_wp2_with fail
        go_ret
        exact ⟨⟨_, l, rfl, hown2, by omega⟩, p' + 1, by omega, hW3⟩
    · obtain ⟨j, rfl⟩ : ∃ j, k = j + 1 := ⟨k - 1, by omega⟩
      go_wp2_with fail
      refine (pick_went R p' _ _ hwent.rd (by omega) (by omega) (by omega)).mono ?_
      rintro e w2 ⟨⟨x1, rfl, hx1⟩, hW2, hz2⟩
      have hV2 := hwent.trans hW2
      have hown2 := hown.went hW2 hlt
      clear hW2 hz2
      go_wp2_with fail
      refine (pick_went R (p' + 1) _ _ hV2.rd (by omega) (by omega) (by omega)).mono ?_
      rintro e w3 ⟨⟨x2, rfl, hx2⟩, hW3, hz3⟩
      have hV3 := hV2.trans hW3
      have hown3 := hown2.went hW3 hlt
      clear hW3 hz3
      go_wp2_with fail
      refine (pick_went R (p' + 1 + 1) _ _ hV3.rd (by omega) (by omega) (by omega)).mono ?_
      rintro e w4 ⟨⟨x3, rfl, hx3⟩, hW4, hz4⟩
      have hV4 := hV3.trans hW4
      have hown4 := hown3.went hW4 hlt
      have hs4 := hV4.gr.size
      clear hW4 hz4
      go_wp2_with fail
      refine (pick_went R (p' + 1 + 1 + 1) _ _ (hV4.rd.alloc _) (by omega) (by omega) (by omega)).mono ?_
      rintro e w5 ⟨⟨x4, rfl, hx4⟩, hW5, hz5⟩
      have hV5 : Went w w5 R (p' + 1 + 1 + 1 + 1) := ⟨hW5.rd, grown_trans hV4.gr (grown_trans (grown_alloc w4 _ _) hW5.gr)⟩
      have hown5 : OwnI w5 w.heap.size _ l := OwnI.went (World.ownsRow.alloc hown4 _) hW5 hlt
      have hs5 := hV5.gr.size
      obtain ⟨x5, hx5⟩ : ∃ x : Int, w5.cell? ⟨w4.heap.size, x4 * 4 / 10, none⟩ = some (.int .i64 x) := by
        refine four_get (T := 3) (a := x1) (b := x2) (c := -1) (d := x3) ?_ (by omega)
        rw [hW5.gr.block _ (by simp) (by simp; omega)]
        show (w4.heap.push _)[w4.heap.size]? = _
        simp
      clear hW5 hz5
      go_wp2_with (at_builtin; refine own_append (.tmp 12) (.tmp 26) hown5 (by omega) hs5 rfl rfl rfl rfl ?_; intro v' w6 hown6 hgr6)
      go_roundw
      case rel => exact ⟨j, l ++ [x5], p' + 1 + 1 + 1 + 1, by go_num, hown6, by simp; omega, by omega, hV5.own hgr6 hown5 (Nat.le_refl _) hlt⟩
      case measure => simp only [intOf]; omega
end Go.Proofs.Ytbjcdogbhnadkac
