import Derived.Test.YtobmdefklgkoiaaSpanOk
namespace Go.Proofs.Ytobmdefklgkoiaa
open Go.ChangeShapes Go.WideShapes Go.ChangeAt Go.RowKit
set_option linter.unusedSimpArgs false

theorem bst {w a b : World} {B : Nat} (h : Below B w a) (hB : B ≤ a.heap.size) (k : Below a.heap.size a b) : Below B w b := h.trans (k.mono hB)

set_option maxHeartbeats 4000000 in
theorem implSpansOk_row (b cap n : Nat) (l : List Int) (c : Int) (w : World) (hb : b < w.heap.size) (hlc : n ≤ cap) (hat : Hid (∀ j, j < n * 4 → w.cell? ⟨b, j, none⟩ = some (.int .i64 (fn l j)))) :
    Calls Try.prog 13 #[.slice (some ⟨b, 0, none⟩) n cap, .int .i64 c] w fun e w' => e = .returned (.bool (spansOk (fn l) n c)) ∧ Below w.heap.size w w' := by
  by_cases hbad : 0 ≤ c ∧ c ≤ 80 ∧ n ≤ 12
  · obtain ⟨h1, h2, h3⟩ := hbad
    go_enter Try.func13, Try.ntmps13
    go_wp2_with fail
    go_loopw [5, 21] (fun q i wr => ∃ (k : Nat), k ≤ n ∧ i = .int .i64 k ∧ q = .int .i64 (enS (fn l) k) ∧ Hid (∀ j, j < k → rowOk (fn l) c j = true) ∧ Below w.heap.size w wr) (fun _ i _ => n - (intOf i).toNat)
    case atStart => exact ⟨0, Nat.zero_le _, rfl, rfl, fun j hj => by omega, Below.refl _ _⟩
    case round =>
      obtain ⟨k, hk, rfl, rfl, hall, hbel⟩ := hrel
      have hsz := hbel.size
      by_cases hlt : k < n
      · have c0 : wr.cell? ⟨b, k * 4, none⟩ = some (.int .i64 (fn l (k * 4))) := (hbel.cell (p := ⟨b, k * 4, none⟩) hb).trans (hat.out _ (by omega))
        have c1 : wr.cell? ⟨b, k * 4 + 1, none⟩ = some (.int .i64 (fn l (k * 4 + 1))) := (hbel.cell (p := ⟨b, k * 4 + 1, none⟩) hb).trans (hat.out _ (by omega))
        have c2 : wr.cell? ⟨b, k * 4 + 2, none⟩ = some (.int .i64 (fn l (k * 4 + 2))) := (hbel.cell (p := ⟨b, k * 4 + 2, none⟩) hb).trans (hat.out _ (by omega))
        have c3 : wr.cell? ⟨b, k * 4 + 3, none⟩ = some (.int .i64 (fn l (k * 4 + 3))) := (hbel.cell (p := ⟨b, k * 4 + 3, none⟩) hb).trans (hat.out _ (by omega))
        go_wp2_with fail
        refine (implSpOk _ _ _ _ _ _).mono ?_
        rintro e w5 ⟨rfl, b5⟩
        have d0 : w5.cell? ⟨wr.heap.size, 0, none⟩ = some (.int .i64 (fn l (k * 4))) := (b5.cell (p := ⟨wr.heap.size, 0, none⟩) (by simp)).trans (by simp)
        have d1 : w5.cell? ⟨wr.heap.size, 1, none⟩ = some (.int .i64 (fn l (k * 4 + 1))) := (b5.cell (p := ⟨wr.heap.size, 1, none⟩) (by simp)).trans (by simp)
        have B5 : Below w.heap.size w w5 := by
          refine (hbel.alloc hsz _).trans (b5.mono ?_)
          simp; omega
        clear b5
        by_cases hq : spOk c (fn l (k * 4)) (fn l (k * 4 + 1)) (fn l (k * 4 + 2)) (fn l (k * 4 + 3)) = true
        · by_cases hz : fn l (k * 4) < enS (fn l) k
          · have HR : Hid _ := rowOk_no2 (c := c) hz
            rw [hq]
            clear hq
            go_wp2_with fail
            go_ret
            exact ⟨retBool (spansOk_row hlt HR.out).symm, B5⟩
          · have HR : Hid _ := rowOk_mk hq (by omega)
            rw [hq]
            clear hq
            go_wp2_with fail
            refine ⟨⟨k + 1, by omega, by go_num, by rw [enS_succ], fun j hj => ?_, B5⟩, by simp only [intOf]; omega⟩
            by_cases ej : j = k
            · subst ej; exact HR.out
            · exact hall.out j (by omega)
        · have hq' : spOk c (fn l (k * 4)) (fn l (k * 4 + 1)) (fn l (k * 4 + 2)) (fn l (k * 4 + 3)) = false := by simpa using hq
          have HR : Hid _ := rowOk_no1 hq'
          rw [hq']
          clear hq hq'
          go_wp2_with fail
          go_ret
          exact ⟨retBool (spansOk_row hlt HR.out).symm, B5⟩
      · have e : k = n := by omega
        subst e
        go_wp2_with fail
        go_ret
        exact ⟨retBool (spansOk_yes h1 h2 h3 hall.out).symm, hbel⟩
  · have HB : Hid _ := spansOk_bad (z := fn l) hbad
    go_enter Try.func13, Try.ntmps13
    by_cases q1 : c < 0
    · clear hbad
      go_wp2_with fail
      go_ret
      exact ⟨retBool HB.out.symm, Below.refl _ _⟩
    · by_cases q2 : 80 < c
      · clear hbad
        go_wp2_with fail
        go_ret
        exact ⟨retBool HB.out.symm, Below.refl _ _⟩
      · have q3 : (12 : Int) < (n : Int) := by omega
        clear hbad
        go_wp2_with fail
        go_ret
        exact ⟨retBool HB.out.symm, Below.refl _ _⟩

end Go.Proofs.Ytobmdefklgkoiaa
