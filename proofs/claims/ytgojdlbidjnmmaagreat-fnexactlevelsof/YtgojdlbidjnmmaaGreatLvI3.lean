import Derived.Test.YtgojdlbidjnmmaaGreatLvI2
namespace Go.Proofs.YtgojdlbidjnmmaaGreat
open Go.ChangeShapes Go.WideShapes Go.ChangeAt Go.RowKit
set_option linter.unusedSimpArgs false
set_option linter.unusedVariables false

set_option maxRecDepth 10000 in
set_option maxHeartbeats 8000000 in
theorem implResolvePair (a d : Nat) {K gt g n cp : Nat} {bf o : Int} {td x : List Int} (w : World) (h : BT w K gt g n cp bf o td x) (hn : n ≤ 1000) (ha : a + 1 + d < n) (hcp : n ≤ cp) :
    Calls Tryz.prog 68 #[.pointer (some ⟨K, 0, none⟩), .int .i64 (a : Int), .int .i64 ((a + 1 + d : Nat) : Int)] w fun e w' => e = .returned (.tuple #[]) ∧ BT w' K gt g n cp bf o td (resP (fn td) n o bf x (a, a + 1 + d)) ∧ w.grownBy w' (some g) := by
  have c1 := h.c1
  have c3 := h.c3
  have HB : Hid (BT w K gt g n cp bf o td x) := h
  have HX : Hid (∀ j, j < d → w.cell? ⟨g, a + 1 + j, none⟩ = some (.int .i64 (fn x (a + 1 + j)))) := fun j hj => h.ox.cellN _ (by omega)
  have i1 : (a : Int) + 1 ≤ ((a + 1 + d : Nat) : Int) := by omega
  have i2 : ((a + 1 + d : Nat) : Int) ≤ (cp : Int) := by omega
  have i3 : ((a + 1 + d : Nat) : Int) < (n : Int) := by omega
  have i4 : ¬ (cp : Int) = (a : Int) + 1 := by omega
  have i5 : ((a + 1 + d : Nat) : Int) - ((a : Int) + 1) = (d : Int) := by omega
  have i6 : ((a + 1 + d : Nat) : Int) ≤ 1000 := by omega
  obtain ⟨s, hs⟩ : ∃ s, a + 1 + d = s := ⟨_, rfl⟩
  have HS : Hid (a + 1 + d = s) := hs
  rw [hs] at ha i1 i2 i3 i5 i6 ⊢
  have hsd : s - (a + 1) = d := by omega
  have HSD : Hid (s - (a + 1) = d) := hsd
  clear h hs
  go_enter Tryz.func68, Tryz.ntmps68
  go_wp2_with fail
  go_loop [6, 7, 21] (fun p q i => ∃ k : Nat, k ≤ d ∧ i = .int .i64 k ∧ p = .bool (ownIn (fn x) o a k) ∧ q = .bool (othIn (fn x) o a k)) (fun _ _ i => d - (intOf i).toNat)
  case atStart => exact ⟨0, Nat.zero_le _, rfl, rfl, rfl⟩
  case round =>
    obtain ⟨k, hk, rfl, rfl, rfl⟩ := hrel
    by_cases hlt : k < d
    · have hki : (k : Int) < (d : Int) := by omega
      have cx := HX.out k hlt
      obtain ⟨y, hy⟩ : ∃ y, fn x (a + 1 + k) = y := ⟨_, rfl⟩
      rw [hy] at cx
      obtain ⟨z, hz⟩ : ∃ z, like y = z := ⟨_, rfl⟩
      have HLK : Hid (∀ W, Calls Tryz.prog 109 #[.int .i64 y] W fun e w' => e = .returned (.int .i64 z) ∧ w' = W) := fun W => by rw [← hz]; exact implLike y W
      obtain ⟨P, hP⟩ : ∃ P, ownIn (fn x) o a k = P := ⟨_, rfl⟩
      obtain ⟨Q, hQ⟩ : ∃ Q, othIn (fn x) o a k = Q := ⟨_, rfl⟩
      obtain ⟨e1, he1⟩ : ∃ e1, (z == o) = e1 := ⟨_, rfl⟩
      obtain ⟨e0, he0⟩ : ∃ e0, (z == 0) = e0 := ⟨_, rfl⟩
      have HP2 : Hid (ownIn (fn x) o a (k + 1) = (P || e1)) := by unfold Hid; rw [← hP, ← he1, ← hz, ← hy]; rfl
      have HQ2 : Hid (othIn (fn x) o a (k + 1) = (Q || (!e0 && !e1))) := by unfold Hid; rw [← hQ, ← he1, ← he0, ← hz, ← hy]; rfl
      rw [hP, hQ]
      clear hP hQ hz hy
      cases P <;> cases Q <;> cases e1 <;> cases e0
      all_goals
        go_wp2_with (go_at_call 109; refine (HLK.out _).mono ?_; rintro e w1 ⟨rfl, hw1⟩; rw [hw1]; clear hw1 w1)
      all_goals
        refine ⟨⟨k + 1, by omega, by go_num, ?_, ?_⟩, by simp only [intOf]; omega⟩ <;> first | (rw [HP2.out]; rfl) | (rw [HQ2.out]; rfl) | (rw [HP2.out]; simp_all; done) | (rw [HQ2.out]; simp_all [bne]; done) | (exfalso; simp_all; done)
    · have e : k = d := by omega
      subst e
      obtain ⟨P, hP⟩ : ∃ P, ownIn (fn x) o a k = P := ⟨_, rfl⟩
      obtain ⟨Q, hQ⟩ : ∃ Q, othIn (fn x) o a k = Q := ⟨_, rfl⟩
      have HRES : Hid (resP (fn td) n o bf x (a, s) = if P = false ∧ Q = false then x else giveL (fn td) n (sidP (fn x) o bf a P) (giveL (fn td) n (sidP (fn x) o bf a P) x a) s) := by
        unfold Hid resP
        simp only [HSD.out, hP, hQ]
      rw [hP, hQ]
      have han : a < n := by omega
      clear hP hQ i4
      have HAH : Hid (∀ W, W = w → Calls Tryz.prog 110 #[.pointer (some ⟨K, 0, none⟩), .int .i64 (a : Int)] W fun e w' => e = .returned (.int .i64 (shA (fn x) bf a)) ∧ w' = W) := fun W hW => by rw [hW]; exact implAhead a w HB.out hn (by omega)
      cases P
      · cases Q
        · go_wp2_with fail
          (try simp only [Exit.inBlock, Exit.then]); refine bodyPost_ret (results_none rfl _ _ _) rfl ?_
          exact ⟨rfl, by rw [HRES.out, if_pos (by simp)]; exact HB.out, grownB_refl _ _⟩
        · obtain ⟨z, hz⟩ : ∃ z, shA (fn x) bf a = z := ⟨_, rfl⟩
          have HR2 : Hid (resP (fn td) n o bf x (a, s) = giveL (fn td) n z (giveL (fn td) n z x a) s) := by
            unfold Hid; rw [HRES.out, if_neg (by simp), ← hz]; rfl
          rw [hz] at HAH
          clear hz
          go_wp2_with (first | (go_at_call 110; refine (HAH.out _ rfl).mono ?_; rintro e w1 ⟨rfl, hw1⟩; rw [hw1]; clear hw1 w1))
          refine (implGive a z w HB.out hn han).mono ?_
          rintro e w2 ⟨rfl, bt2, gr2⟩
          go_wp2_with fail
          refine (implGive s z w2 bt2 hn ha).mono ?_
          rintro e w3 ⟨rfl, bt3, gr3⟩
          go_wp2_with fail
          go_end0
          exact ⟨rfl, by rw [HR2.out]; exact bt3, grownB_tr gr2 gr3⟩
      · have HR2 : Hid (resP (fn td) n o bf x (a, s) = giveL (fn td) n o (giveL (fn td) n o x a) s) := by
          unfold Hid; rw [HRES.out, if_neg (by simp)]; rfl
        go_wp2_with fail
        refine (implGive a o w HB.out hn han).mono ?_
        rintro e w2 ⟨rfl, bt2, gr2⟩
        go_wp2_with fail
        refine (implGive s o w2 bt2 hn ha).mono ?_
        rintro e w3 ⟨rfl, bt3, gr3⟩
        go_wp2_with fail
        go_end0
        exact ⟨rfl, by rw [HR2.out]; exact bt3, grownB_tr gr2 gr3⟩
end Go.Proofs.YtgojdlbidjnmmaaGreat
