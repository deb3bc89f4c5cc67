import Derived.Test.YtobmdefklgkoiaaSpanAid
import Derived.Test.YtobmdefklgkoiaaMarkM
namespace Go.Proofs.Ytobmdefklgkoiaa
open Go.ChangeShapes Go.WideShapes Go.ChangeAt Go.RowKit
set_option linter.unusedSimpArgs false

theorem OwnS.aside {w w' : World} {v u : Value} {l : List Int} {B n : Nat} (h : OwnS w B v n l) (hg : w.grownBy w' u.ownBlock) (hne : ∀ k, v.ownBlock = some k → u.ownBlock ≠ some k) : OwnS w' B v n l :=
  h.kept fun k hk => hg.block k (h.lt k hk).2 (fun e => hne k hk e.symm)

set_option maxHeartbeats 4000000 in
theorem markS_any (v : Value) (n : Nat) (l : List Int) (B : Nat) (k : Int) (w : World) (hv : OwnS w B v n l) (hl : n ≤ 1048576) (hk0 : 0 ≤ k) (hk1 : k ≤ 1000000000000) :
    Calls Try.prog 27 #[v, .int .i64 k] w fun e w' => e = .returned (.int .i64 (k + 4 * (n : Int))) ∧ OwnS w' B v n (marks k (n * 4)) ∧ w.grownBy w' v.ownBlock ∧ w'.heap.size = w.heap.size := by
  rcases hv.forms with ⟨rfl, rfl⟩ | ⟨g, cap, rfl, hg, hgw, hlc, hcm⟩
  · go_enter Try.func27, Try.ntmps27
    go_wp2_with fail
    go_rounds 1
    go_ret
    exact ⟨retInt (by simp), OwnS.nil _ _, ⟨rfl, rfl, rfl, Nat.le_refl _, fun _ _ _ => rfl⟩, rfl⟩
  · go_enter Try.func27, Try.ntmps27
    go_wp2_with fail
    go_loopw [1, 5] (fun q i wr => ∃ (m : Nat) (l' : List Int), m ≤ n ∧ i = .int .i64 m ∧ q = .int .i64 (k + 4 * (m : Int)) ∧ OwnS wr B (.slice (some ⟨g, 0, none⟩) n cap) n l' ∧ Hid (∀ j, j < m * 4 → fn l' j = k + (j : Int)) ∧ w.grownBy wr (some g) ∧ Hid (wr.heap.size = w.heap.size)) (fun _ i _ => n - (intOf i).toNat)
    case atStart => exact ⟨0, l, Nat.zero_le _, rfl, by go_num, hv, fun j hj => by omega, ⟨rfl, rfl, rfl, Nat.le_refl _, fun _ _ _ => rfl⟩, rfl⟩
    case round =>
      obtain ⟨m, l', hm, rfl, rfl, hown, hsame, hgr, hsz⟩ := hrel
      by_cases hlt : m < n
      · have f0 := hown.frozen (m * 4)
        have f1 := hown.frozen (m * 4 + 1)
        have f2 := hown.frozen (m * 4 + 2)
        have f3 := hown.frozen (m * 4 + 3)
        have d0 := hown.cell (m * 4) (by omega)
        have d1 := hown.cell (m * 4 + 1) (by omega)
        have d2 := hown.cell (m * 4 + 2) (by omega)
        have d3 := hown.cell (m * 4 + 3) (by omega)
        have hmi : (m : Int) < (n : Int) := by omega
        have hle := hown.len
        have HLE : Hid _ := hle
        clear hle
        go_wp2_with fail
        refine ⟨⟨m + 1, (((l'.set (m * 4) (k + 4 * (m : Int))).set (m * 4 + 1) (k + 4 * (m : Int) + 1)).set (m * 4 + 2) (k + 4 * (m : Int) + 1 + 1)).set (m * 4 + 3) (k + 4 * (m : Int) + 1 + 1 + 1), by omega, by go_num, by go_num, (((hown.stored (m * 4) _).stored (m * 4 + 1) _).stored (m * 4 + 2) _).stored (m * 4 + 3) _, fun j hj => ?_, ?_, ?_⟩, by simp only [intOf]; omega⟩
        · have e := HLE.out
          by_cases e3 : j = m * 4 + 3
          · subst e3; rw [fn_set_same (by simp; omega)]; omega
          · rw [fn_set_other (by omega)]
            by_cases e2 : j = m * 4 + 2
            · subst e2; rw [fn_set_same (by simp; omega)]; omega
            · rw [fn_set_other (by omega)]
              by_cases e1 : j = m * 4 + 1
              · subst e1; rw [fn_set_same (by simp; omega)]; omega
              · rw [fn_set_other (by omega)]
                by_cases e0 : j = m * 4
                · subst e0; rw [fn_set_same (by omega)]; omega
                · rw [fn_set_other (by omega)]; exact hsame.out j (by omega)
        · have st : ∀ (u : World) (o : Nat) (x : Value), w.grownBy u (some g) → w.grownBy (u.setCell ⟨g, o, none⟩ x) (some g) := fun u o x hh =>
            ⟨hh.os, hh.tape, hh.output, by simpa using hh.size, fun i hi hne => (heap_setCell_other u ⟨g, o, none⟩ i _ (fun e => hne (by rw [e]))).trans (hh.block i hi hne)⟩
          exact st _ _ _ (st _ _ _ (st _ _ _ (st _ _ _ hgr)))
        · show (World.heap _).size = w.heap.size
          simp only [World.size_setCell]; exact hsz.out
      · have e : m = n := by omega
        subst e
        go_wp2_with fail
        go_ret
        have e := hown.len
        have el : l' = marks k (m * 4) := ext_fn (by rw [marks_len]; exact e) (fun j hj => by rw [hsame.out j (by omega), fn_marks (by omega)])
        rw [el] at hown
        exact ⟨rfl, hown, hgr, hsz.out⟩
end Go.Proofs.Ytobmdefklgkoiaa
