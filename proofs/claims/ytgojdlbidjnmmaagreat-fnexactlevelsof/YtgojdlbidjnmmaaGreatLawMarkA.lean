import Derived.Test.YtgojdlbidjnmmaaGreatLawAid
namespace Go.Proofs.YtgojdlbidjnmmaaGreat
open Go.ChangeShapes Go.WideShapes Go.ChangeAt Go.RowKit
set_option linter.unusedSimpArgs false

def marks (k : Int) (n : Nat) : List Int := (List.range n).map fun (j : Nat) => k + (j : Int)
theorem marks_len (k : Int) (n : Nat) : (marks k n).length = n := by simp [marks]
theorem fn_marks {k : Int} {n j : Nat} (h : j < n) : fn (marks k n) j = k + (j : Int) := by simp [fn, marks, h]

set_option maxHeartbeats 2000000 in
theorem mark_any (v : Value) (l : List Int) (B : Nat) (k : Int) (w : World) (hv : OwnI w B v l) (hl : l.length ≤ 1048576) (hk0 : 0 ≤ k) (hk1 : k ≤ 1000000000000) :
    Calls Tryz.prog 26 #[v, .int .i64 k] w fun e w' => e = .returned (.int .i64 (k + (l.length : Int))) ∧ OwnI w' B v (marks k l.length) ∧ w.grownBy w' v.ownBlock ∧ w'.heap.size = w.heap.size := by
  rcases hv.forms with ⟨rfl, rfl⟩ | ⟨g, cap, rfl, hg, hgw, hlc, hcm, hat⟩
  · go_enter Tryz.func26, Tryz.ntmps26
    go_wp2
    go_rounds 1
    go_ret
    exact ⟨retInt (by simp), OwnI.nil _ _, ⟨rfl, rfl, rfl, Nat.le_refl _, fun _ _ _ => rfl⟩, rfl⟩
  · obtain ⟨n, hn⟩ : ∃ n, l.length = n := ⟨_, rfl⟩
    rw [hn] at hv hl ⊢
    clear hat
    go_enter Tryz.func26, Tryz.ntmps26
    go_wp2
    go_loopw [1, 5] (fun q i wr => ∃ (m : Nat) (l' : List Int), m ≤ n ∧ i = .int .i64 m ∧ q = .int .i64 (k + (m : Int)) ∧ OwnI wr B (.slice (some ⟨g, 0, none⟩) n cap) l' ∧ Hid (∀ j, j < m → fn l' j = k + (j : Int)) ∧ w.grownBy wr (some g) ∧ Hid (wr.heap.size = w.heap.size)) (fun _ i _ => n - (intOf i).toNat)
    case atStart => exact ⟨0, l, Nat.zero_le _, rfl, by go_num, hv, fun j hj => by omega, ⟨rfl, rfl, rfl, Nat.le_refl _, fun _ _ _ => rfl⟩, rfl⟩
    case round =>
      obtain ⟨m, l', hm, rfl, rfl, hown, hsame, hgr, hsz⟩ := hrel
      by_cases hlt : m < n
      · have hf : wr.frozen? ⟨g, m, none⟩ = false := hown.frozenN m
        have hc2 : wr.cell? ⟨g, m, none⟩ = some (.int .i64 (fn l' m)) := hown.cellN m hlt
        go_wp2
        go_roundw
        case rel =>
          refine ⟨m + 1, l'.set m (k + (m : Int)), by omega, by go_num, by go_num, hown.storedN m _, fun j hj => ?_, ?_, ?_⟩
          · have e := hown.len
            by_cases ej : j = m
            · subst ej; exact fn_set_same (by omega)
            · rw [fn_set_other (by omega)]; exact hsame.out j (by omega)
          · exact ⟨hgr.os, hgr.tape, hgr.output, by simpa using hgr.size, fun i hi hne => (heap_setCell_other wr ⟨g, m, none⟩ i _ (fun e => hne (by rw [e]))).trans (hgr.block i hi hne)⟩
          · show (wr.setCell _ _).heap.size = w.heap.size
            rw [World.size_setCell]; exact hsz.out
        case measure => simp only [intOf]; omega
      · have e : m = n := by omega
        subst e
        go_wp2
        go_ret
        have e := hown.len
        have el : l' = marks k m := ext_fn (by rw [marks_len]; exact e) (fun j hj => by rw [hsame.out j (by omega), fn_marks (by omega)])
        rw [el] at hown
        exact ⟨rfl, hown, hgr, hsz.out⟩
end Go.Proofs.YtgojdlbidjnmmaaGreat
