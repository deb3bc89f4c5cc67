import Derived.Test.YtpdngcjioaeckacMade
namespace Go.Proofs.Ytpdngcjioaeckac
open Go.ChangeShapes Go.WideShapes Go.ChangeAt Go.RowKit
set_option linter.unusedSimpArgs false

theorem fn_rep {n j : Nat} {x : Int} (h : j < n) : fn (List.replicate n x) j = x := by simp [fn, h]

set_option maxHeartbeats 2000000 in
theorem fill_row (g n cap : Nat) (l : List Int) (B : Nat) (x : Int) (w : World) (hv : OwnI w B (.slice (some ⟨g, 0, none⟩) n cap) l) (hl : n ≤ 1048576) :
    Calls Try.prog 36 #[.slice (some ⟨g, 0, none⟩) n cap, .int .i64 x] w fun e w' => e = .returned (.tuple #[]) ∧ OwnI w' B (.slice (some ⟨g, 0, none⟩) n cap) (List.replicate n x) ∧ w.grownBy w' (some g) ∧ w'.heap.size = w.heap.size := by
  go_enter Try.func36, Try.ntmps36
  go_wp2
  go_loopw [7] (fun i wr => ∃ (m : Nat) (l' : List Int), m ≤ n ∧ i = .int .i64 m ∧ OwnI wr B (.slice (some ⟨g, 0, none⟩) n cap) l' ∧ Hid (∀ j, j < m → fn l' j = x) ∧ w.grownBy wr (some g) ∧ Hid (wr.heap.size = w.heap.size)) (fun i _ => n - (intOf i).toNat)
  case atStart => exact ⟨0, l, Nat.zero_le _, rfl, hv, fun j hj => by omega, ⟨rfl, rfl, rfl, Nat.le_refl _, fun _ _ _ => rfl⟩, rfl⟩
  case round =>
    obtain ⟨m, l', hm, rfl, hown, hsame, hgr, hsz⟩ := hrel
    by_cases hlt : m < n
    · have hf : wr.frozen? ⟨g, m, none⟩ = false := hown.frozenN m
      have hc2 : wr.cell? ⟨g, m, none⟩ = some (.int .i64 (fn l' m)) := hown.cellN m hlt
      go_wp2
      go_roundw
      case rel =>
        refine ⟨m + 1, l'.set m x, by omega, by go_num, hown.storedN m _, fun j hj => ?_, ?_, ?_⟩
        · have e := hown.len
          by_cases ej : j = m
          · subst ej; exact fn_set_same (by omega)
          · rw [fn_set_other (by omega)]; exact hsame.out j (by omega)
        · exact ⟨hgr.os, hgr.tape, hgr.output, by simpa using hgr.size, fun i hi hne => (heap_setCell_other wr ⟨g, m, none⟩ i _ (fun e => hne (by rw [e]))).trans (hgr.block i hi hne)⟩
        · show (wr.setCell _ _).heap.size = w.heap.size
          rw [World.size_setCell]; exact hsz.out
      case measure => simp only [intOf]; omega
    · have e : m = n := by omega
      subst e
      go_wp2
      go_end0
      have e := hown.len
      have el : l' = List.replicate m x := ext_fn (by rw [List.length_replicate]; exact e) (fun j hj => by rw [hsame.out j (by omega), fn_rep (by omega)])
      rw [el] at hown
      exact ⟨rfl, hown, hgr, hsz.out⟩
end Go.Proofs.Ytpdngcjioaeckac
