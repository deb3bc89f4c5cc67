import Derived.Test.YtbeecmcgdlnakaaDraw4
namespace Go.Proofs.Ytbeecmcgdlnakaa
open Go.ChangeShapes Go.WideShapes Go.ChangeAt Go.RowKit
set_option linter.unusedSimpArgs false

theorem six_get {w : World} {R : Nat} {a b c d e f : Int} {k : Nat} {T : TypeId} (h : w.heap[R]? = some (.cells #[.int .i64 a, .int .i64 b, .int .i64 c, .int .i64 d, .int .i64 e, .int .i64 f] T (0, 0))) (hk : k < 6) : ∃ x : Int, w.cell? ⟨R, k, none⟩ = some (.int .i64 x) := by
  rw [cell_of_row w R k _ _ _ h]
  rcases (by omega : k = 0 ∨ k = 1 ∨ k = 2 ∨ k = 3 ∨ k = 4 ∨ k = 5) with e | e | e | e | e | e
  all_goals (subst e; exact ⟨_, rfl⟩)

set_option maxHeartbeats 1000000 in
theorem base_any (R p : Nat) (w : World) (hr : Rd w R p) (hp : p ≤ 90000) :
    Calls Try.prog 32 #[.pointer (some ⟨R, 0, none⟩)] w fun e w' => (∃ b : Int, e = .returned (.int .i64 b)) ∧ Went w w' R (p + 1) := by
  have hlt := hr.lt
  go_enter Try.func32, Try.ntmps32
  go_wp2_with fail
  refine (pick_went R p _ _ (hr.alloc _) (by omega) (by omega) (by omega)).mono ?_
  rintro e w5 ⟨⟨x4, rfl, hx4⟩, hW5, hz5⟩
  have hV5 : Went w w5 R (p + 1) := ⟨hW5.rd, grown_trans (grown_alloc w _ _) hW5.gr⟩
  obtain ⟨x5, hx5⟩ : ∃ x : Int, w5.cell? ⟨w.heap.size, x4 * 6 / 18, none⟩ = some (.int .i64 x) := by
    refine six_get (T := 3) (a := 0) (b := 1) (c := 0) (d := 1) (e := 2) (f := -1) ?_ (by omega)
    rw [hW5.gr.block _ (by simp) (by simp; omega)]
    show (w.heap.push _)[w.heap.size]? = _
    simp
  clear hW5 hz5
  go_wp2_with fail
  go_ret
  exact ⟨⟨x5, rfl⟩, hV5⟩

set_option maxHeartbeats 1000000 in
theorem drawTold (a : Option Addr) (len cap : Nat) (w : World) (h : Bytes w a len cap) :
    Calls Try.prog 9 #[.slice a len cap] w fun e w' => (∃ v l b, e = .returned (.tuple #[v, .int .i64 b]) ∧ OwnI w' w.heap.size v l ∧ l.length ≤ 81) ∧ Below w.heap.size w w' := by
  go_enter Try.func9, Try.ntmps9
  go_wp2_with fail
  refine (open_any a len cap w h).mono ?_
  rintro e w1 ⟨rfl, hR, hB⟩
  have hlt := hR.lt
  have hsz := hB.size
  go_wp2_with fail
  refine (any_any w.heap.size 0 w1 hR (by omega)).mono ?_
  rintro e w2 ⟨⟨v, l, rfl, hown, hl⟩, p', hp', hW⟩
  go_wp2_with fail
  refine (base_any w.heap.size p' w2 hW.rd (by omega)).mono ?_
  rintro e w3 ⟨⟨b, rfl⟩, hW3⟩
  have ho3 := hown.went hW3 hlt
  have hV := hW.trans hW3
  clear hW hW3 hown
  go_wp2_with fail
  go_ret2
  exact ⟨⟨v, l, b, rfl, ho3.mono (by omega), hl⟩, hB.trans (hV.below (Nat.le_refl _) hlt)⟩
end Go.Proofs.Ytbeecmcgdlnakaa
