import Derived.Test.YtobmdefklgkoiaaSpPS3
namespace Go.Proofs.Ytobmdefklgkoiaa
open Go.ChangeShapes Go.WideShapes Go.ChangeAt Go.RowKit
set_option linter.unusedSimpArgs false
set_option linter.unusedVariables false

theorem OwnK.drew {w : World} {v : Value} {l : List Int} {B n : Nat} (h : OwnK w B v n l) : OwnK w.drew B v n l := h

set_option maxHeartbeats 600000 in
theorem specMoveDown (g cap N B : Nat) (x : List (Int × Int)) (a d : Nat) (w : World) (hv : OwnK w B (.slice (some ⟨g, 0, none⟩) N cap) N (flatP x)) (hx : x.length = N) (hN : N ≤ 80) (hd : 0 < d) (ha : a + d ≤ N) (hcap : N ≤ cap) (hcm : cap ≤ maxLen) :
    Calls Try.prog 44 #[.slice (some ⟨g, 0, none⟩) N cap, .int .i64 (a : Int), .int .i64 (-(d : Int))] w fun e w' => ∃ v', e = .returned v' ∧ OwnK w' w.heap.size v' (moveLk x a (-(d : Int))).length (flatP (moveLk x a (-(d : Int)))) ∧ Below w.heap.size w w' := by
  have HAT : Hid (∀ u, Below w.heap.size w u → ∀ j, j < N * 2 → u.cell? ⟨g, j, none⟩ = some (.int .i64 (fn (flatP x) j))) := fun u hu => below_row hv hu
  have HE : Hid (OwnK (w.alloc (.cells #[] 74)) w.heap.size (.slice (some ⟨w.heap.size, 0, none⟩) 0 0) 0 []) := OwnK.emp w _ (Nat.le_refl _)
  have hT1 : (flatP (x.take a)).length = a * 2 := by rw [flatP_len, List.length_take]; omega
  have HT1 : Hid ((flatP (x.take a)).length = a * 2) := hT1
  obtain ⟨E, hEE⟩ : ∃ E, a + d = E := ⟨_, rfl⟩
  have hT2 : (flatP (x.drop E)).length = (N - E) * 2 := by rw [flatP_len, List.length_drop]; omega
  have HT2 : Hid ((flatP (x.drop E)).length = (N - E) * 2) := hT2
  have HML : Hid (moveLk x a (-(d : Int)) = x.take a ++ x.drop E ∧ (moveLk x a (-(d : Int))).length = a + (N - E)) := by
    have e1 : moveLk x a (-(d : Int)) = x.take a ++ x.drop E := by
      unfold moveLk
      rw [if_pos (by omega), show a + (-(-(d : Int))).toNat = E by omega]
    exact ⟨e1, by rw [e1]; simp; omega⟩
  obtain ⟨K, hK⟩ : ∃ K : Int, -(d : Int) = K := ⟨_, rfl⟩
  rw [hK] at HML ⊢
  have hKE : (a : Int) - K = (E : Int) := by omega
  have hK0 : K < 0 := by omega
  have wr1 : IntKind.i64.wrap (E : Int) = (E : Int) := by simp [IntKind.wrap, IntKind.bits, IntKind.signed]; omega
  have hac : a ≤ cap := by omega
  have haci : (a : Int) ≤ (cap : Int) := by omega
  have hEc : (E : Int) ≤ (N : Int) := by omega
  have hEN : E ≤ N := by omega
  clear hT1 hT2 hv hEE hK
  by_cases hc : E = cap
  · subst hc
    have hNE : N - E = 0 := by omega
    have hae : a ≤ E := by omega
    have HNE : Hid (N - E = 0) := hNE
    have HDR : Hid (x.drop E = []) := List.drop_eq_nil_of_le (by omega)
    go_enter Try.func44, Try.ntmps44
    go_wp2_with fail
    go_region_law (first
      | (refine step_allK (m := []) (b := g) (off := 0) (k := 0) (c := 0) (.tmp 16) (.tmp 21) hown9 rfl (by omega) hb9.size (fun i hi => by omega) rfl rfl rfl rfl ?_; intro v8 w8 hown8 hgr8)
      | (refine step_allK (m := flatP (x.take a)) (b := g) (off := 0) (k := a) (c := E) (.tmp 12) (.tmp 15) HE.out HT1.out (by omega) (by simp) (fun j hj => ?_) rfl rfl rfl rfl ?_; (rw [Nat.zero_add, HAT.out _ (by first | exact ((Below.refl _ _).alloc (Nat.le_refl _) _).drew | exact ((Below.refl _ _).drew.alloc (Nat.le_refl _) _)) _ (by omega), flatP_take, fn_takeP hj]); intro v9 w9 hown9 hgr9; (have hb9 : Below w.heap.size w w9 := by first | exact Below.grown ((Below.refl _ w).alloc (Nat.le_refl _) _).drew hgr9 (by simp) (fun q hq => (OwnK.lt HE.out q hq).1) | exact Below.grown ((Below.refl _ w).drew.alloc (Nat.le_refl _) _) hgr9 (by simp) (fun q hq => (OwnK.lt HE.out q hq).1))))
    all_goals go_wp2_with fail
    all_goals go_ret
    all_goals
      refine ⟨_, rfl, ?_, hb9.grown hgr8 hb9.size (fun q hq => (OwnK.lt hown9 q hq).1)⟩
      rw [HML.out.2, HML.out.1, HDR.out, List.append_nil, HNE.out]
      simp only [List.nil_append, List.append_nil, Nat.zero_add, Nat.add_zero] at hown8 ⊢
      exact hown8
  · have hlc : E < cap := by omega
    have hlci : (E : Int) < (cap : Int) := by omega
    have hcE : ¬ cap = E := fun e => hc e.symm
    go_enter Try.func44, Try.ntmps44
    go_wp2_with fail
    go_region_law (first
      | (refine step_allK (m := flatP (x.drop E)) (b := g) (off := E * 2) (k := N - E) (c := cap - E) (.tmp 16) (.tmp 21) hown9 HT2.out (by omega) hb9.size (fun i hi => ?_) rfl rfl rfl rfl ?_; (rw [HAT.out _ hb9 _ (by omega), flatP_drop, fn_dropP]); intro v8 w8 hown8 hgr8)
      | (refine step_allK (m := flatP (x.take a)) (b := g) (off := 0) (k := a) (c := cap) (.tmp 12) (.tmp 15) HE.out HT1.out (by omega) (by simp) (fun j hj => ?_) rfl rfl rfl rfl ?_; (rw [Nat.zero_add, HAT.out _ (by first | exact ((Below.refl _ _).alloc (Nat.le_refl _) _).drew | exact ((Below.refl _ _).drew.alloc (Nat.le_refl _) _)) _ (by omega), flatP_take, fn_takeP hj]); intro v9 w9 hown9 hgr9; (have hb9 : Below w.heap.size w w9 := by first | exact Below.grown ((Below.refl _ w).alloc (Nat.le_refl _) _).drew hgr9 (by simp) (fun q hq => (OwnK.lt HE.out q hq).1) | exact Below.grown ((Below.refl _ w).drew.alloc (Nat.le_refl _) _) hgr9 (by simp) (fun q hq => (OwnK.lt HE.out q hq).1))))
    all_goals go_wp2_with fail
    all_goals go_ret
    all_goals
      refine ⟨_, rfl, ?_, hb9.grown hgr8 hb9.size (fun q hq => (OwnK.lt hown9 q hq).1)⟩
      rw [HML.out.2, HML.out.1, flatP_app]
      simp only [List.nil_append, List.append_nil, Nat.zero_add, Nat.add_zero] at hown8 ⊢
      exact hown8
end Go.Proofs.Ytobmdefklgkoiaa
