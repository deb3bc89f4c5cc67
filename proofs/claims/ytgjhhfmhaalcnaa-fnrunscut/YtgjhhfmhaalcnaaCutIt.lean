import Derived.Test.YtgjhhfmhaalcnaaCutFn
namespace Go.Proofs.Ytgjhhfmhaalcnaa
open Go.ChangeShapes Go.WideShapes Go.ChangeAt Go.RowKit
set_option linter.unusedSimpArgs false

theorem one_cell {w : World} {R : Nat} {x : Value} {T : TypeId} (h : w.heap[R]? = some (.cells #[x] T (0, 0))) : w.cell? ⟨R, 0, none⟩ = some x ∧ w.frozen? ⟨R, 0, none⟩ = false ∧ R < w.heap.size :=
  ⟨by simp [World.cell?, h], by simp [World.frozen?, h], (Array.getElem?_eq_some_iff.1 h).1⟩
theorem three_cells {w : World} {R : Nat} {x y z : Value} {T : TypeId} (h : w.heap[R]? = some (.cells #[x, y, z] T (0, 0))) : w.cell? ⟨R, 0, none⟩ = some x ∧ w.cell? ⟨R, 1, none⟩ = some y ∧ w.cell? ⟨R, 2, none⟩ = some z ∧ w.frozen? ⟨R, 0, none⟩ = false ∧ w.frozen? ⟨R, 1, none⟩ = false ∧ w.frozen? ⟨R, 2, none⟩ = false ∧ R < w.heap.size :=
  ⟨by simp [World.cell?, h], by simp [World.cell?, h], by simp [World.cell?, h], by simp [World.frozen?, h], by simp [World.frozen?, h], by simp [World.frozen?, h], (Array.getElem?_eq_some_iff.1 h).1⟩

set_option maxHeartbeats 2000000 in
theorem iter_more (N P g c n cap : Nat) (l : List Int) (w : World) (hN : w.heap[N]? = some (.cells #[.int .i64 (c : Int)] 3 (0, 0))) (hP : w.heap[P]? = some (.cells #[.slice (some ⟨g, 0, none⟩) n cap] 33 (0, 0)))
    (hg : g < w.heap.size) (c0 : w.cell? ⟨g, c * 3, none⟩ = some (.int .i64 (fn l (c * 3)))) (c1 : w.cell? ⟨g, c * 3 + 1, none⟩ = some (.int .i64 (fn l (c * 3 + 1)))) (c2 : w.cell? ⟨g, c * 3 + 2, none⟩ = some (.int .i64 (fn l (c * 3 + 2)))) (hc : c < n) (hc2 : c ≤ 1000) (h1 : g ≠ N) (h2 : P ≠ N) :
    Calls Try.prog 70 #[.pointer (some ⟨N, 0, none⟩), .pointer (some ⟨P, 0, none⟩)] w fun e w' => e = .returned (.tuple #[.agg #[.int .i64 (fn l (c * 3)), .int .i64 (fn l (c * 3 + 1)), .int .i64 (fn l (c * 3 + 2))], .bool true]) ∧ w.grownBy w' (some N) ∧ w'.heap[N]? = some (.cells #[.int .i64 ((c + 1 : Nat) : Int)] 3 (0, 0)) := by
  obtain ⟨n1, n2, n3⟩ := one_cell hN
  obtain ⟨p1, p2, p3⟩ := one_cell hP
  have HN : Hid _ := hN
  have hci : (c : Int) < (n : Int) := by omega
  have hcn : ((c : Int) == (n : Int)) = false := by simp; omega
  obtain ⟨x0, hx0⟩ : ∃ x, fn l (c * 3) = x := ⟨_, rfl⟩
  obtain ⟨x1, hx1⟩ : ∃ x, fn l (c * 3 + 1) = x := ⟨_, rfl⟩
  obtain ⟨x2, hx2⟩ : ∃ x, fn l (c * 3 + 2) = x := ⟨_, rfl⟩
  rw [hx0] at c0 ⊢
  rw [hx1] at c1 ⊢
  rw [hx2] at c2 ⊢
  clear hx0 hx1 hx2 hN hP
  go_enter Try.func70, Try.ntmps70
  go_wp2_with fail
  refine bodyPost_ret (v := .tuple #[.agg #[.int .i64 x0, .int .i64 x1, .int .i64 x2], .bool true]) (by simp [results, Try.results70, go_sem]) rfl ⟨rfl, ⟨rfl, rfl, rfl, by simp, fun k hk hne => ?_⟩, ?_⟩
  · rw [Below.heap_alloc _ _ _ (by simpa using hk)]
    exact heap_setCell_other w ⟨N, 0, none⟩ k _ (fun e => hne (by rw [e]))
  · rw [Below.heap_alloc _ _ _ (by simpa using n3), heap_setCell_same w N 0 _ _ _ HN.out]
    simp

set_option maxHeartbeats 2000000 in
theorem iter_end (N P n cap : Nat) (a : Option Addr) (w : World) (hN : w.heap[N]? = some (.cells #[.int .i64 (n : Int)] 3 (0, 0))) (hP : w.heap[P]? = some (.cells #[.slice a n cap] 33 (0, 0))) :
    Calls Try.prog 70 #[.pointer (some ⟨N, 0, none⟩), .pointer (some ⟨P, 0, none⟩)] w fun e w' => e = .returned (.tuple #[.agg #[.int .i64 0, .int .i64 0, .int .i64 0], .bool false]) ∧ Below w.heap.size w w' := by
  obtain ⟨n1, n2, n3⟩ := one_cell hN
  obtain ⟨p1, p2, p3⟩ := one_cell hP
  clear hN hP
  go_enter Try.func70, Try.ntmps70
  go_wp2_with fail
  exact bodyPost_ret (v := .tuple #[.agg #[.int .i64 0, .int .i64 0, .int .i64 0], .bool false]) (by simp [results, Try.results70, go_sem]) rfl ⟨rfl, by go_grown⟩
end Go.Proofs.Ytgjhhfmhaalcnaa
