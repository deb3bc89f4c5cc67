import Derived.Test.YtgojdlbidjnmmaaGreatMem
namespace Go.Proofs.YtgojdlbidjnmmaaGreat
open Go.ChangeShapes Go.WideShapes Go.ChangeAt Go.RowKit
set_option linter.unusedSimpArgs false

set_option maxHeartbeats 2000000 in
theorem fill_at (g i m cq n cap : Nat) (l : List Int) (B : Nat) (x : Int) (w : World) (hv : OwnI w B (.slice (some ⟨g, 0, none⟩) n cap) l) (him : i + m ≤ n) (hl : n ≤ 1048576) :
    Calls Tryz.prog 53 #[.slice (some ⟨g, i, none⟩) m cq, .int .i64 x] w fun e w' => e = .returned (.tuple #[]) ∧ (∃ l', OwnI w' B (.slice (some ⟨g, 0, none⟩) n cap) l' ∧ Hid (∀ j, j < n → fn l' j = if i ≤ j ∧ j < i + m then x else fn l j)) ∧ w.grownBy w' (some g) ∧ w'.heap.size = w.heap.size := by
  go_enter Tryz.func53, Tryz.ntmps53
  go_wp2
  go_loopw [7] (fun q wr => ∃ (k : Nat) (l' : List Int), k ≤ m ∧ q = .int .i64 k ∧ OwnI wr B (.slice (some ⟨g, 0, none⟩) n cap) l' ∧ Hid (∀ j, j < n → fn l' j = if i ≤ j ∧ j < i + k then x else fn l j) ∧ w.grownBy wr (some g) ∧ Hid (wr.heap.size = w.heap.size)) (fun q _ => m - (intOf q).toNat)
  case atStart => exact ⟨0, l, Nat.zero_le _, rfl, hv, fun j hj => by rw [if_neg (by omega)], ⟨rfl, rfl, rfl, Nat.le_refl _, fun _ _ _ => rfl⟩, rfl⟩
  case round =>
    obtain ⟨k, l', hm, rfl, hown, hsame, hgr, hsz⟩ := hrel
    by_cases hlt : k < m
    · have hf : wr.frozen? ⟨g, i + k, none⟩ = false := hown.frozenN _
      have hc2 : wr.cell? ⟨g, i + k, none⟩ = some (.int .i64 (fn l' (i + k))) := hown.cellN _ (by omega)
      go_wp2
      go_roundw
      case rel =>
        refine ⟨k + 1, l'.set (i + k) x, by omega, by go_num, hown.storedN _ _, fun j hj => ?_, ?_, ?_⟩
        · have e := hown.len
          by_cases ej : j = i + k
          · subst ej; rw [fn_set_same (by omega), if_pos (by omega)]
          · rw [fn_set_other (by omega), hsame.out j hj]
            by_cases e2 : i ≤ j ∧ j < i + k
            · rw [if_pos e2, if_pos (by omega)]
            · rw [if_neg e2, if_neg (by omega)]
        · exact ⟨hgr.os, hgr.tape, hgr.output, by simpa using hgr.size, fun y hy hne => (heap_setCell_other wr ⟨g, i + k, none⟩ y _ (fun e => hne (by rw [e]))).trans (hgr.block y hy hne)⟩
        · show (wr.setCell _ _).heap.size = w.heap.size
          rw [World.size_setCell]; exact hsz.out
      case measure => simp only [intOf]; omega
    · have e : k = m := by omega
      subst e
      go_wp2
      go_end0
      exact ⟨rfl, ⟨l', hown, hsame⟩, hgr, hsz.out⟩
end Go.Proofs.YtgojdlbidjnmmaaGreat
