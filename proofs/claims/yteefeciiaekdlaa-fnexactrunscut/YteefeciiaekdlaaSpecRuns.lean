import Derived.Test.YteefeciiaekdlaaRunMath
namespace Go.Proofs.Yteefeciiaekdlaa
open Go.ChangeShapes Go.WideShapes Go.ChangeAt Go.RowKit
set_option linter.unusedSimpArgs false

theorem OwnR.drewN {w : World} {v : Value} {l : List Int} {B n : Nat} (h : OwnR w B v n l) (m : Nat) : OwnR (w.drewN m) B v n l := h
theorem belowDrew {w w' : World} {B : Nat} (h : Below B w w') (m : Nat) : Below B w (w'.drewN m) := h.trans ⟨rfl, rfl, rfl, Nat.le_refl _, fun _ _ => rfl⟩

set_option maxRecDepth 10000 in
set_option maxHeartbeats 8000000 in
theorem specRuns_row (b off cap n : Nat) (lv : List Int) (w : World) (hn : Hid (lv.length = n)) (hn0 : 0 < n) (hl : n ≤ 80) (hlc : n ≤ cap) (hcm : cap ≤ maxLen) (hb : b < w.heap.size) (hat : At w b off lv) (hok : Hid (lvF (fn lv) n = true)) :
    Calls Try.prog 44 #[.slice (some ⟨b, off, none⟩) n cap] w fun e w' => (∃ v' m, e = .returned v' ∧ OwnR w' w.heap.size v' m (flat (fn lv) n)) ∧ Below w.heap.size w w' := by
  have hB0 : Below w.heap.size w (w.alloc (.cells #[] 33)) := (Below.refl _ _).alloc (Nat.le_refl _) _
  have hA0 : Arg w (.slice (some ⟨b, off, none⟩) n cap) lv := .inr ⟨b, off, cap, by rw [hn.out], hb, by rw [hn.out]; exact hlc, hcm, hat⟩
  have HO := specLv (.slice (some ⟨b, off, none⟩) n cap) lv _ (hA0.below hB0) (by rw [hn.out]; omega)
  rw [hn.out, hok.out] at HO
  have hlow : Hid (∀ j, j < n → -1 ≤ fn lv j) := fun j hj => by have := lvF_get hok.out hj; simp [lvl] at this; omega
  clear hA0
  go_enter Try.func44, Try.ntmps44
  go_wp2_with fail
  refine HO.mono ?_
  rintro e w1 ⟨rfl, rfl⟩
  go_wp2_with fail
  have h0 : OwnR (w.alloc (.cells #[] 33)) w.heap.size (.slice (some ⟨w.heap.size, 0, none⟩) 0 0) 0 [] :=
    ⟨by simp, .inr ⟨w.heap.size, 0, #[], rfl, Nat.le_refl _, heap_alloc_new w _, Nat.le_refl _, by unfold maxLen; omega, rfl, rfl⟩⟩
  go_loopw [3, 4] (fun q i wr => ∃ (k : Nat), k ≤ n ∧ i = .int .i64 k ∧ Below w.heap.size w wr ∧ ((k = 0 ∧ q = .slice (some ⟨w.heap.size, 0, none⟩) 0 0 ∧ OwnR wr w.heap.size (.slice (some ⟨w.heap.size, 0, none⟩) 0 0) 0 []) ∨
      (1 ≤ k ∧ ∃ (m : Nat) (F : List Int) (f V : Int) (g cp : Nat), q = .slice (some ⟨g, 0, none⟩) (m + 1) cp ∧ OwnR wr w.heap.size (.slice (some ⟨g, 0, none⟩) (m + 1) cp) (m + 1) (F ++ [f, (k : Int), V]) ∧ Hid (rS (fn lv) k = (F, f, V)) ∧ Hid (F.length = m * 3) ∧ m ≤ k))) (fun _ i _ => n - (intOf i).toNat)
  case atStart => exact ⟨0, Nat.zero_le _, rfl, hB0, .inl ⟨rfl, rfl, h0⟩⟩
  case round =>
    obtain ⟨k, hk, rfl, hbel, hst⟩ := hrel
    have hsz := hbel.size
    rcases hst with ⟨rfl, rfl, hown⟩ | ⟨hk1, m, F, f, V, g, cp, rfl, hown, hS, hF, hm⟩
    · have hcell : wr.cell? ⟨b, off + 0, none⟩ = some (.int .i64 (fn lv 0)) := (hat.below hbel hb) 0 (by rw [hn.out]; exact hn0)
      rw [Nat.add_zero] at hcell
      have hn0i : (0 : Int) < (n : Int) := by omega
      have HS2 : Hid (rS (fn lv) 1 = ([], 0, fn lv 0)) := by show rS (fn lv) (0 + 1) = _; simp [rS]
      go_wp2_with (at_builtin; refine own_appendR (.tmp 33) (.tmp 42) hown (by omega) hsz rfl rfl rfl rfl ?_; intro v5 w5 hown5 hgr5; have hbel5 : Below w.heap.size w w5 := hbel.grown hgr5 hsz (fun kk hkk => (hown.lt kk hkk).1); obtain ⟨g5, cp5, rfl⟩ := hown5.form1)
      refine ⟨⟨1, by omega, by go_num, hbel5, .inr ⟨by omega, 0, [], 0, fn lv 0, g5, cp5, rfl, ?_, HS2, rfl, by omega⟩⟩, by simp only [intOf]; omega⟩
      simpa using hown5
    · by_cases hlt : k < n
      · have hcell : wr.cell? ⟨b, off + k, none⟩ = some (.int .i64 (fn lv k)) := (hat.below hbel hb) k (by rw [hn.out]; exact hlt)
        have hlo := hlow.out k hlt
        have hVlo : -1 ≤ V := by have := rS_low hlow.out k hk; rw [hS.out] at this; exact this
        have hV : wr.cell? ⟨g, m * 3 + 2, none⟩ = some (.int .i64 V) := by
          rw [hown.cell (m * 3 + 2) (by omega), ← hF.out, fn_end]
        have hT : wr.cell? ⟨g, m * 3 + 1, none⟩ = some (.int .i64 (fn (F ++ [f, (k : Int), V]) (m * 3 + 1))) := hown.cell (m * 3 + 1) (by omega)
        have hf2 := hown.frozen (m * 3 + 2)
        have hf1 := hown.frozen (m * 3 + 1)
        have hkn : (k : Int) < (n : Int) := by omega
        have hbg : b ≠ g := by have := (hown.lt g rfl).1; omega
        have hgb : g ≠ b := fun e => hbg e.symm
        have hmm : (m : Int) < (m : Int) + 1 := by omega
        have HL1 : Hid ((F ++ [f, (k : Int), V]).set (m * 3 + 1) ((k : Int) + 1) = F ++ [f, ((k + 1 : Nat) : Int), V]) := by
          show _ = _
          rw [← hF.out, set_mid]; simp
        by_cases hz0 : 0 ≤ fn lv k
        · have hd : decide (fn lv k < 0) = false := by rw [decide_eq_false_iff_not]; omega
          by_cases hq : fn lv k = V
          · have HS2 : Hid (rS (fn lv) (k + 1) = (F, f, V)) := by
              show rS (fn lv) (k + 1) = _
              simp only [rS, hS.out]; rw [if_neg (by omega), if_neg (by omega)]
            rw [hq] at hcell hd
            clear hq
            go_wp2_with fail
            go_quiet (fail)
            go_wp2_with fail
            refine ⟨⟨k + 1, by omega, by go_num, (belowDrew hbel _).setCell (hown.lt g rfl).1 _, .inr ⟨by omega, m, F, f, V, g, cp, rfl, ?_, HS2, hF, by omega⟩⟩, by simp only [intOf]; omega⟩
            rw [← HL1.out]; exact (hown.drewN _).stored (m * 3 + 1) ((k : Int) + 1)
          · have hq2 : (fn lv k == V) = false := by simpa using hq
            by_cases hV0 : V < 0
            · have HS2 : Hid (rS (fn lv) (k + 1) = (F, f, fn lv k)) := by
                show rS (fn lv) (k + 1) = _
                simp only [rS, hS.out]; rw [if_pos hV0]
              have HL : Hid (((F ++ [f, (k : Int), V]).set (m * 3 + 1) ((k : Int) + 1)).set (m * 3 + 2) (fn lv k) = F ++ [f, ((k + 1 : Nat) : Int), fn lv k]) := by
                show _ = _
                rw [← hF.out, set_mid, set_end]; simp
              clear hq
              go_wp2_with fail
              go_quiet (fail)
              go_wp2_with fail
              refine ⟨⟨k + 1, by omega, by go_num, ((belowDrew hbel _).setCell (hown.lt g rfl).1 _).setCell (hown.lt g rfl).1 _, .inr ⟨by omega, m, F, f, fn lv k, g, cp, rfl, ?_, HS2, hF, by omega⟩⟩, by simp only [intOf]; omega⟩
              rw [← HL.out]; exact ((hown.drewN _).stored (m * 3 + 1) ((k : Int) + 1)).stored (m * 3 + 2) (fn lv k)
            · have hV1 : 0 ≤ V := by omega
              have HS2 : Hid (rS (fn lv) (k + 1) = (F ++ [f, (k : Int), V], (k : Int), fn lv k)) := by
                show rS (fn lv) (k + 1) = _
                simp only [rS, hS.out]; rw [if_neg hV0, if_pos ⟨hz0, hq⟩]
              have HF2 : Hid ((F ++ [f, (k : Int), V]).length = (m + 1) * 3) := show _ = _ by simp [hF.out]; omega
              clear hq
              go_wp2_with fail
              go_quiet (fail)
              go_wp2_with (at_builtin; refine own_appendR (.tmp 19) (.tmp 28) (hown.drewN nq) (by omega) (by show w.heap.size ≤ wr.heap.size; exact hsz) rfl rfl rfl rfl ?_; intro v5 w5 hown5 hgr5; have hbel5 : Below w.heap.size w w5 := (belowDrew hbel _).grown hgr5 hsz (fun kk hkk => (hown.lt kk hkk).1); obtain ⟨g5, cp5, rfl⟩ := hown5.form1)
              refine ⟨⟨k + 1, by omega, by go_num, hbel5, .inr ⟨by omega, m + 1, _, _, _, g5, cp5, rfl, ?_, HS2, HF2, by omega⟩⟩, by simp only [intOf]; omega⟩
              simpa using hown5
        · have hd : decide (fn lv k < 0) = true := by rw [decide_eq_true_iff]; omega
          have HS2 : Hid (rS (fn lv) (k + 1) = (F, f, V)) := by
            show rS (fn lv) (k + 1) = _
            simp only [rS, hS.out]
            by_cases hV0 : V < 0
            · rw [if_pos hV0, show fn lv k = V by omega]
            · rw [if_neg hV0, if_neg (by omega)]
          go_wp2_with fail
          go_quiet (fail)
          go_wp2_with fail
          refine ⟨⟨k + 1, by omega, by go_num, (belowDrew hbel _).setCell (hown.lt g rfl).1 _, .inr ⟨by omega, m, F, f, V, g, cp, rfl, ?_, HS2, hF, by omega⟩⟩, by simp only [intOf]; omega⟩
          rw [← HL1.out]; exact (hown.drewN _).stored (m * 3 + 1) ((k : Int) + 1)
      · have e : k = n := by omega
        subst e
        go_wp2_with fail
        go_ret
        refine ⟨⟨_, m + 1, rfl, ?_⟩, hbel⟩
        unfold flat
        rw [hS.out]
        exact hown
end Go.Proofs.Yteefeciiaekdlaa
