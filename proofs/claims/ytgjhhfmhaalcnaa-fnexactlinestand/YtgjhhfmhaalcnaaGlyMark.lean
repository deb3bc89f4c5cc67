import Derived.Test.YtgjhhfmhaalcnaaGlyRow
import Derived.Test.YtgjhhfmhaalcnaaLawMarkA
namespace Go.Proofs.Ytgjhhfmhaalcnaa
open Go.ChangeShapes Go.WideShapes Go.ChangeAt Go.RowKit
set_option linter.unusedSimpArgs false

theorem OwnG.aside {w w' : World} {v u : Value} {l : List Int} {B n : Nat} (h : OwnG w B v n l) (hg : w.grownBy w' u.ownBlock) (hne : ∀ k, v.ownBlock = some k → u.ownBlock ≠ some k) : OwnG w' B v n l :=
  h.kept fun k hk => hg.block k (h.lt k hk).2 (fun e => hne k hk e.symm)

set_option maxHeartbeats 1600000 in
theorem markG_any (v : Value) (n : Nat) (l : List Int) (B : Nat) (k : Int) (w : World) (hv : OwnG w B v n l) (hl : n ≤ 1048576) (hk0 : 0 ≤ k) (hk1 : k ≤ 1000000000000) :
    Calls Try.prog 58 #[v, .int .i64 k] w fun e w' => e = .returned (.int .i64 (k + 5 * (n : Int))) ∧ OwnG w' B v n (marks k (n * 5)) ∧ w.grownBy w' v.ownBlock ∧ w'.heap.size = w.heap.size := by
  rcases hv.forms with ⟨rfl, rfl⟩ | ⟨g, cap, rfl, hg, hgw, hlc, hcm⟩
  · go_enter Try.func58, Try.ntmps58
    go_wp2_with fail
    go_rounds 1
    go_ret
    exact ⟨retInt (by simp), OwnG.nil _ _, ⟨rfl, rfl, rfl, Nat.le_refl _, fun _ _ _ => rfl⟩, rfl⟩
  · go_enter Try.func58, Try.ntmps58
    go_wp2_with fail
    go_loopw [1, 5] (fun q i wr => ∃ (m : Nat) (l' : List Int), m ≤ n ∧ i = .int .i64 m ∧ q = .int .i64 (k + 5 * (m : Int)) ∧ OwnG wr B (.slice (some ⟨g, 0, none⟩) n cap) n l' ∧ Hid (∀ j, j < m * 5 → fn l' j = k + (j : Int)) ∧ w.grownBy wr (some g) ∧ Hid (wr.heap.size = w.heap.size)) (fun _ i _ => n - (intOf i).toNat)
    case atStart => exact ⟨0, l, Nat.zero_le _, rfl, by go_num, hv, fun j hj => by omega, ⟨rfl, rfl, rfl, Nat.le_refl _, fun _ _ _ => rfl⟩, rfl⟩
    case round =>
      obtain ⟨m, l', hm, rfl, rfl, hown, hsame, hgr, hsz⟩ := hrel
      by_cases hlt : m < n
      · have f0 := hown.frozen (m * 5)
        have f1 := hown.frozen (m * 5 + 1)
        have f2 := hown.frozen (m * 5 + 2)
        have f3 := hown.frozen (m * 5 + 3)
        have f4 := hown.frozen (m * 5 + 4)
        have d0 := hown.cell (m * 5) (by omega)
        have d1 := hown.cell (m * 5 + 1) (by omega)
        have d2 := hown.cell (m * 5 + 2) (by omega)
        have d3 := hown.cell (m * 5 + 3) (by omega)
        have d4 := hown.cell (m * 5 + 4) (by omega)
        have hmi : (m : Int) < (n : Int) := by omega
        have hle := hown.len
        have HLE : Hid _ := hle
        clear hle
        go_wp2_with fail
        refine ⟨⟨m + 1, ((((l'.set (m * 5) (k + 5 * (m : Int))).set (m * 5 + 1) (k + 5 * (m : Int) + 1)).set (m * 5 + 2) (k + 5 * (m : Int) + 1 + 1)).set (m * 5 + 3) (k + 5 * (m : Int) + 1 + 1 + 1)).set (m * 5 + 4) (k + 5 * (m : Int) + 1 + 1 + 1 + 1), by omega, by go_num, by go_num, ((((hown.stored (m * 5) _).stored (m * 5 + 1) _).stored (m * 5 + 2) _).stored (m * 5 + 3) _).stored (m * 5 + 4) _, fun j hj => ?_, ?_, ?_⟩, by simp only [intOf]; omega⟩
        · have e := HLE.out
          by_cases e4 : j = m * 5 + 4
          · subst e4; rw [fn_set_same (by simp; omega)]; omega
          · rw [fn_set_other (by omega)]
            by_cases e3 : j = m * 5 + 3
            · subst e3; rw [fn_set_same (by simp; omega)]; omega
            · rw [fn_set_other (by omega)]
              by_cases e2 : j = m * 5 + 2
              · subst e2; rw [fn_set_same (by simp; omega)]; omega
              · rw [fn_set_other (by omega)]
                by_cases e1 : j = m * 5 + 1
                · subst e1; rw [fn_set_same (by simp; omega)]; omega
                · rw [fn_set_other (by omega)]
                  by_cases e0 : j = m * 5
                  · subst e0; rw [fn_set_same (by omega)]; omega
                  · rw [fn_set_other (by omega)]; exact hsame.out j (by omega)
        · have st : ∀ (u : World) (o : Nat) (x : Value), w.grownBy u (some g) → w.grownBy (u.setCell ⟨g, o, none⟩ x) (some g) := fun u o x hh =>
            ⟨hh.os, hh.tape, hh.output, by simpa using hh.size, fun i hi hne => (heap_setCell_other u ⟨g, o, none⟩ i _ (fun e => hne (by rw [e]))).trans (hh.block i hi hne)⟩
          exact st _ _ _ (st _ _ _ (st _ _ _ (st _ _ _ (st _ _ _ hgr))))
        · show (World.heap _).size = w.heap.size
          simp only [World.size_setCell]; exact hsz.out
      · have e : m = n := by omega
        subst e
        go_wp2_with fail
        go_ret
        have e := hown.len
        have el : l' = marks k (m * 5) := ext_fn (by rw [marks_len]; exact e) (fun j hj => by rw [hsame.out j (by omega), fn_marks (by omega)])
        rw [el] at hown
        exact ⟨rfl, hown, hgr, hsz.out⟩

set_option maxHeartbeats 1600000 in
theorem heldG_any (v : Value) (n : Nat) (k : Int) (w : World) (hv : ArgG w v n (marks k (n * 5))) (hl : n ≤ 1048576) (hk0 : 0 ≤ k) (hk1 : k ≤ 1000000000000) :
    Calls Try.prog 59 #[v, .int .i64 k] w fun e w' => e = .returned (.int .i64 (k + 5 * (n : Int))) ∧ w' = w := by
  rcases hv with ⟨a0, c0, rfl, rfl⟩ | ⟨g, cap, rfl, hgw, hlc, hcm, hat⟩
  · go_enter Try.func59, Try.ntmps59
    go_wp2
    go_rounds 1
    go_ret
    exact ⟨retInt (by simp), rfl⟩
  · have HAT : Hid (∀ j, j < n * 5 → w.cell? ⟨g, j, none⟩ = some (.int .i64 (k + (j : Int)))) := fun j hj => by rw [hat j hj, fn_marks hj]
    clear hat
    go_enter Try.func59, Try.ntmps59
    go_wp2
    go_loop [1, 5] (fun q i => ∃ (m : Nat), m ≤ n ∧ i = .int .i64 m ∧ q = .int .i64 (k + 5 * (m : Int))) (fun _ i => n - (intOf i).toNat)
    case atStart => exact ⟨0, Nat.zero_le _, rfl, by go_num⟩
    case round =>
      obtain ⟨m, hm, rfl, rfl⟩ := hrel
      by_cases hlt : m < n
      · have c0 : w.cell? ⟨g, m * 5, none⟩ = some (.int .i64 (k + 5 * (m : Int))) := by rw [HAT.out _ (by omega)]; congr 2; omega
        have c1 : w.cell? ⟨g, m * 5 + 1, none⟩ = some (.int .i64 (k + 5 * (m : Int) + 1)) := by rw [HAT.out _ (by omega)]; congr 2; omega
        have c2 : w.cell? ⟨g, m * 5 + 2, none⟩ = some (.int .i64 (k + 5 * (m : Int) + 1 + 1)) := by rw [HAT.out _ (by omega)]; congr 2; omega
        have c3 : w.cell? ⟨g, m * 5 + 3, none⟩ = some (.int .i64 (k + 5 * (m : Int) + 1 + 1 + 1)) := by rw [HAT.out _ (by omega)]; congr 2; omega
        have c4 : w.cell? ⟨g, m * 5 + 4, none⟩ = some (.int .i64 (k + 5 * (m : Int) + 1 + 1 + 1 + 1)) := by rw [HAT.out _ (by omega)]; congr 2; omega
        go_wp2
        go_round
        case rel => exact ⟨m + 1, by omega, by go_num, by go_num⟩
        case measure => simp only [intOf]; omega
      · have e : m = n := by omega
        subst e
        go_wp2
        go_ret
        exact ⟨rfl, rfl⟩
end Go.Proofs.Ytgjhhfmhaalcnaa
