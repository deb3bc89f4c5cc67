import Derived.Test.YtgojdlbidjnmmaaGreatLvS5
namespace Go.Proofs.YtgojdlbidjnmmaaGreat
open Go.ChangeShapes Go.WideShapes Go.ChangeAt Go.RowKit Go.Deep
set_option linter.unusedSimpArgs false
set_option linter.unusedVariables false

set_option maxRecDepth 10000 in
set_option maxHeartbeats 4000000 in
theorem specLevels0 (a : Option Addr) (cap : Nat) (mt : Nat → Nat) (base : Int) (w : World) (hv : Arg w (.slice a 0 cap) []) (hb01 : 0 ≤ base ∧ base ≤ 1) (hmt : Hid (MateFn (cl []) 0 mt)) :
    Calls Tryz.prog 37 #[.slice a 0 cap, .int .i64 base] w fun e w' => (∃ v', e = .returned v' ∧ OwnI w' w.heap.size v' []) ∧ Below w.heap.size w w' := by
  have hSA := specAll_any (.slice a 0 cap) [] mt base w a cap rfl hv (by simp) hmt hb01
  have HSA : Hid _ := hSA
  clear hSA hv
  go_enter Tryz.func37, Tryz.ntmps37
  go_wp2_with fail
  refine Calls.mono HSA.out ?_
  rintro e w2 ⟨⟨W, gl, gc, vs, s, al, rfl, h⟩, b2⟩
  have h' : WIn w2 w.heap.size W gl gc 0 (.slice a 0 cap) vs _ _ s al := h
  have c1 := h'.c1
  have HB2 : Hid (Below w.heap.size w w2) := b2
  have ho := own_empty w2 w2.heap.size 3 (Nat.le_refl _) rfl
  have hbe : Below w2.heap.size w2 (w2.alloc (.cells #[] 3)) := (Below.refl _ _).alloc (Nat.le_refl _) _
  have hat2 : At (w2.alloc (.cells #[] 3)) gl 0 [] := fun j hj => by simp at hj
  have ca1 : (w2.alloc (.cells #[] 3)).cell? ⟨W, 1, none⟩ = some (.slice (some ⟨gl, 0, none⟩) 0 0) := (hbe.cell (p := ⟨W, 1, none⟩) h'.lt).trans c1
  have HC4 : Hid (∀ V, (w2.alloc (.cells #[] 3)).grownBy V (some w2.heap.size) → V.cell? ⟨W, 1, none⟩ = some (.slice (some ⟨gl, 0, none⟩) 0 0)) := fun V hV => (World.cell?_of_block (hV.block W (Nat.lt_of_lt_of_le h'.lt hbe.size) (fun e => by have := h'.lt; simp at e; omega))).trans ca1
  have hsz2 := b2.size
  clear h h' b2
  go_wp2_with (at_builtin; refine own_appendAll (.tmp 22) (.tmp 26) ho (m := []) rfl (by simp) (by simp) hat2 rfl rfl rfl rfl ?_; intro v4 w4 o4 gr4; have c14 := HC4.out w4 gr4)
  have b24 : Below w2.heap.size w2 w4 := by
    refine hbe.grown gr4 (by simp) (fun k hk => ?_)
    simp [Value.ownBlock] at hk
    omega
  have O4 : Hid (OwnI w4 w2.heap.size v4 []) := o4
  have HB4 : Hid (Below w.heap.size w w4) := bstep HB2.out b24
  clear gr4 o4 b24
  refine (specRuns0 _ _ _ _ _).mono ?_
  rintro e w5 ⟨⟨v7, rfl, vs7, r7⟩, b5⟩
  obtain ⟨av, cv, rfl⟩ := r7.slc
  have O5 : Hid (OwnI w5 w2.heap.size v4 []) := O4.out.below b5
  have HB5 : Hid (Below w.heap.size w w5) := bstep HB4.out b5
  clear r7 b5
  go_wp2_with fail
  go_rounds 1
  go_ret
  exact ⟨⟨_, rfl, O5.out.mono hsz2⟩, HB5.out⟩

set_option maxHeartbeats 4000000 in
theorem specLevelsOf (v : Value) (l : List Int) (mt : Nat → Nat) (base : Int) (w : World) (a : Option Addr) (cap : Nat) (hva : v = .slice a l.length cap) (hv : Arg w v l) (hl : l.length ≤ 1048576) (hmt : Hid (MateFn (cl l) l.length mt)) :
    Calls Tryz.prog 13 #[v, .int .i64 base] w fun e w' => (∃ v', e = .returned v' ∧ OwnI w' w.heap.size v' (levsR l mt base)) ∧ Below w.heap.size w w' := by
  subst hva
  obtain ⟨q, hq⟩ : ∃ q, okT l base = q := ⟨_, rfl⟩
  have HQ : Hid _ := hq
  unfold levsR
  rw [hq]
  cases q
  · rw [if_neg (by simp)]
    have ho := own_empty w w.heap.size 3 (Nat.le_refl _) rfl
    have HO : Hid _ := ho
    have HB0 : Hid (Below w.heap.size w (w.alloc (.cells #[] 3))) := (Below.refl _ _).alloc (Nat.le_refl _) _
    clear hq ho
    go_enter Tryz.func13, Tryz.ntmps13
    go_wp2_with (go_at_call 36; refine (specOk3 _ l base _ hv (by omega)).mono ?_; rintro e w1 ⟨rfl, rfl⟩; rw [HQ.out])
    go_ret
    exact ⟨⟨_, rfl, HO.out⟩, HB0.out⟩
  · obtain ⟨hok, hb01, h80⟩ := okT_out hq
    rw [if_pos rfl]
    have hl4 : l.length ≤ 4194304 := by omega
    have HV : Hid (Arg w (.slice a l.length cap) l) := hv
    clear hq
    by_cases h0 : l = []
    · subst h0
      have hS := specLevels0 a cap mt base w hv hb01 hmt
      have HS : Hid _ := hS
      have he : Hid (levsF [] mt base = []) := List.eq_nil_of_length_eq_zero (levsF_len [] mt base)
      clear hS hv
      go_enter Tryz.func13, Tryz.ntmps13
      go_wp2_with (go_at_call 36; refine (specOk3 _ [] base _ HV.out hl4).mono ?_; rintro e w1 ⟨rfl, hw1⟩; rw [HQ.out, hw1]; clear hw1 w1)
      refine Calls.mono HS.out ?_
      rintro e w2 ⟨⟨v2, rfl, o2⟩, b2⟩
      go_wp2_with fail
      go_ret
      rw [he.out]
      exact ⟨⟨_, rfl, o2⟩, b2⟩
    · rcases hv with ⟨_, _, _, e⟩ | ⟨b, off, cap', e, hb, hlc, hcm, hat⟩
      · exact absurd e h0
      · simp only [Value.slice.injEq, true_and] at e
        obtain ⟨rfl, rfl⟩ := e
        have hS := specLevels1 b off cap l.length l mt base w rfl (List.length_pos_iff.2 h0) h80 hok hb01 hb hat HV.out hmt
        have HS : Hid _ := hS
        clear hS hat
        go_enter Tryz.func13, Tryz.ntmps13
        go_wp2_with (go_at_call 36; refine (specOk3 _ l base _ HV.out hl4).mono ?_; rintro e w1 ⟨rfl, hw1⟩; rw [HQ.out, hw1]; clear hw1 w1)
        refine Calls.mono HS.out ?_
        rintro e w2 ⟨⟨v2, rfl, o2⟩, b2⟩
        go_wp2_with fail
        go_ret
        exact ⟨⟨_, rfl, o2⟩, b2⟩
end Go.Proofs.YtgojdlbidjnmmaaGreat
