import Derived.Test.YteefeciiaekdlaaRunMath
namespace Go.Proofs.Yteefeciiaekdlaa
open Go.ChangeShapes Go.WideShapes Go.ChangeAt Go.RowKit
set_option linter.unusedSimpArgs false

set_option maxHeartbeats 8000000 in
theorem implRuns_row (b off cap n : Nat) (lv : List Int) (w : World) (hn : Hid (lv.length = n)) (hn0 : 0 < n) (hl : n ≤ 80) (hlc : n ≤ cap) (hcm : cap ≤ maxLen) (hb : b < w.heap.size) (hat : At w b off lv) (hok : Hid (lvF (fn lv) n = true)) :
    Calls Try.prog 42 #[.slice (some ⟨b, off, none⟩) n cap] w fun e w' => (∃ v' m, e = .returned v' ∧ OwnR w' w.heap.size v' m (flat (fn lv) n)) ∧ Below w.heap.size w w' := by
  have HO := implLv (.slice (some ⟨b, off, none⟩) n cap) lv w (.inr ⟨b, off, cap, by rw [hn.out], hb, by rw [hn.out]; exact hlc, hcm, hat⟩) (by rw [hn.out]; omega)
  rw [hn.out, hok.out] at HO
  have hnz : ((n : Int) == 0) = false := by simp; omega
  go_enter Try.func42, Try.ntmps42
  go_wp2_with fail
  refine HO.mono ?_
  rintro e w1 ⟨rfl, rfl⟩
  go_wp2_with fail
  have h0 : OwnR (w1.alloc (.cells #[.int .i64 0, .int .i64 0, .int .i64 (-1)] 33)) w1.heap.size (.slice (some ⟨w1.heap.size, 0, none⟩) 1 1) 1 ([] ++ [0, ((0 : Nat) : Int), -1]) :=
    ⟨by simp, .inr ⟨w1.heap.size, 1, #[.int .i64 0, .int .i64 0, .int .i64 (-1)], rfl, Nat.le_refl _, heap_alloc_new w1 _, Nat.le_refl _, by unfold maxLen; omega, rfl, rfl⟩⟩
  go_loopw [3, 19] (fun q i wr => ∃ (k m : Nat) (F : List Int) (f V : Int) (g cp : Nat), k ≤ n ∧ i = .int .i64 k ∧ q = .slice (some ⟨g, 0, none⟩) (m + 1) cp ∧ OwnR wr w1.heap.size (.slice (some ⟨g, 0, none⟩) (m + 1) cp) (m + 1) (F ++ [f, (k : Int), V]) ∧ Hid (rS (fn lv) k = (F, f, V)) ∧ Hid (F.length = m * 3) ∧ m ≤ k ∧ Below w1.heap.size w1 wr) (fun _ i _ => n - (intOf i).toNat)
  case atStart => exact ⟨0, 0, [], 0, -1, w1.heap.size, 1, Nat.zero_le _, rfl, rfl, h0, rfl, rfl, Nat.le_refl _, by go_grown⟩
  case round =>
    obtain ⟨k, m, F, f, V, g, cp, hk, rfl, rfl, hown, hS, hF, hm, hbel⟩ := hrel
    have hsz := hbel.size
    by_cases hlt : k < n
    · have hcell : wr.cell? ⟨b, off + k, none⟩ = some (.int .i64 (fn lv k)) := (hat.below hbel hb) k (by rw [hn.out]; exact hlt)
      have hV : wr.cell? ⟨g, m * 3 + 2, none⟩ = some (.int .i64 V) := by
        rw [hown.cell (m * 3 + 2) (by omega), ← hF.out, fn_end]
      have hT : wr.cell? ⟨g, m * 3 + 1, none⟩ = some (.int .i64 (fn (F ++ [f, (k : Int), V]) (m * 3 + 1))) := hown.cell (m * 3 + 1) (by omega)
      have hf2 := hown.frozen (m * 3 + 2)
      have hf1 := hown.frozen (m * 3 + 1)
      by_cases hV0 : V < 0
      · have HS2 : Hid (rS (fn lv) (k + 1) = (F, f, fn lv k)) := by
          show rS (fn lv) (k + 1) = _
          simp only [rS, hS.out]; rw [if_pos hV0]
        have HL : Hid (((F ++ [f, (k : Int), V]).set (m * 3 + 2) (fn lv k)).set (m * 3 + 1) ((k : Int) + 1) = F ++ [f, ((k + 1 : Nat) : Int), fn lv k]) := by
          show _ = _
          rw [← hF.out, set_end, set_mid]; simp
        go_wp2_with fail
        refine ⟨⟨k + 1, m, F, f, fn lv k, g, cp, by omega, by go_num, rfl, ?_, HS2, hF, by omega, ?_⟩, by simp only [intOf]; omega⟩
        · rw [← HL.out]; exact (hown.stored (m * 3 + 2) (fn lv k)).stored (m * 3 + 1) ((k : Int) + 1)
        · exact (hbel.setCell (hown.lt g rfl).1 _).setCell (hown.lt g rfl).1 _
      · have hV1 : 0 ≤ V := by omega
        by_cases hz : 0 ≤ fn lv k ∧ fn lv k ≠ V
        · have HS2 : Hid (rS (fn lv) (k + 1) = (F ++ [f, (k : Int), V], (k : Int), fn lv k)) := by
            show rS (fn lv) (k + 1) = _
            simp only [rS, hS.out]; rw [if_neg hV0, if_pos hz]
          obtain ⟨hz0, hz1⟩ := hz
          have hz2 : (fn lv k != V) = true := by simpa using hz1
          have HF2 : Hid ((F ++ [f, (k : Int), V]).length = (m + 1) * 3) := show _ = _ by simp [hF.out]; omega
          have HL : Hid (((F ++ [f, (k : Int), V]) ++ [(k : Int), 0, fn lv k]).set ((m + 1) * 3 + 1) ((k : Int) + 1) = (F ++ [f, (k : Int), V]) ++ [(k : Int), ((k + 1 : Nat) : Int), fn lv k]) := by
            show _ = _
            rw [← HF2.out, set_mid]; simp
          go_wp2_with (at_builtin; refine own_appendR (.tmp 48) (.tmp 52) hown (by omega) hsz rfl rfl rfl rfl ?_; intro v5 w5 hown5 hgr5; have hbel5 : Below w1.heap.size w1 w5 := hbel.grown hgr5 hsz (fun kk hkk => (hown.lt kk hkk).1); obtain ⟨g5, cp5, rfl⟩ := hown5.form1; have hT5 := hown5.cell ((m + 1) * 3 + 1) (by omega); have hf5 := hown5.frozen ((m + 1) * 3 + 1))
          refine ⟨⟨k + 1, m + 1, _, _, _, g5, cp5, by omega, by go_num, rfl, ?_, HS2, HF2, by omega, ?_⟩, by simp only [intOf]; omega⟩
          · rw [← HL.out]; exact hown5.stored ((m + 1) * 3 + 1) ((k : Int) + 1)
          · exact hbel5.setCell (hown5.lt g5 rfl).1 _
        · have HS2 : Hid (rS (fn lv) (k + 1) = (F, f, V)) := by
            show rS (fn lv) (k + 1) = _
            simp only [rS, hS.out]; rw [if_neg hV0, if_neg hz]
          have HL : Hid ((F ++ [f, (k : Int), V]).set (m * 3 + 1) ((k : Int) + 1) = F ++ [f, ((k + 1 : Nat) : Int), V]) := by
            show _ = _
            rw [← hF.out, set_mid]; simp
          by_cases hz0 : 0 ≤ fn lv k
          · have hz1 : fn lv k = V := by
              rcases Classical.em (fn lv k = V) with c | c
              · exact c
              · exact absurd ⟨hz0, c⟩ hz
            rw [hz1] at hcell
            clear hz hz1
            go_wp2_with fail
            refine ⟨⟨k + 1, m, F, f, V, g, cp, by omega, by go_num, rfl, ?_, HS2, hF, by omega, ?_⟩, by simp only [intOf]; omega⟩
            · rw [← HL.out]; exact hown.stored (m * 3 + 1) ((k : Int) + 1)
            · exact hbel.setCell (hown.lt g rfl).1 _
          · clear hz
            go_wp2_with fail
            refine ⟨⟨k + 1, m, F, f, V, g, cp, by omega, by go_num, rfl, ?_, HS2, hF, by omega, ?_⟩, by simp only [intOf]; omega⟩
            · rw [← HL.out]; exact hown.stored (m * 3 + 1) ((k : Int) + 1)
            · exact hbel.setCell (hown.lt g rfl).1 _
    · have e : k = n := by omega
      subst e
      go_wp2_with fail
      go_ret
      refine ⟨⟨_, m + 1, rfl, ?_⟩, hbel⟩
      unfold flat
      rw [hS.out]
      exact hown
end Go.Proofs.Yteefeciiaekdlaa
