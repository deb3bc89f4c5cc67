import Derived.Test.YtgojdlbidjnmmaaGreatMtI
namespace Go.Proofs.YtgojdlbidjnmmaaGreat
open Go.ChangeShapes Go.WideShapes Go.ChangeAt Go.RowKit
set_option linter.unusedSimpArgs false
set_option linter.unusedVariables false

theorem mateR_no {l c : List Int} (h : ¬ (okF (fn l) l.length = true ∧ clsOk (fn c) c.length = true ∧ l.length = c.length)) : mateR l c = [] := by unfold mateR; rw [if_neg h]
theorem mateR_nil : mateR [] [] = [] := by
  unfold mateR; split <;> rfl
theorem mateR_yes {l c : List Int} (h1 : okF (fn l) l.length = true) (h2 : clsOk (fn c) c.length = true) (h3 : l.length = c.length) : mateR l c = rowsP (srtB (stB (fn l) (fn c) mate l.length).2) := by unfold mateR; rw [if_pos ⟨h1, h2, h3⟩]
set_option maxHeartbeats 2000000 in
theorem implMates (l c : List Int) (w : World) (a b : Option Addr) (ca cb : Nat) (h1 : Arg w (.slice a l.length ca) l) (h2 : Arg w (.slice b c.length cb) c) (hl1 : l.length ≤ 1048576) (hl2 : c.length ≤ 1048576) :
    Calls Tryz.prog 67 #[.slice a l.length ca, .slice b c.length cb] w fun e w' => (∃ v, e = .returned v ∧ RRX w' w.heap.size v (mateR l c)) ∧ Below w.heap.size w w' := by
  have hok := fun q (e : okF (fn l) l.length = q) => e ▸ implOk _ l w h1 (by omega)
  have hcl := fun q (e : clsOk (fn c) c.length = q) => e ▸ implCls _ c c.length w rfl h2 (by omega)
  obtain ⟨n, hn⟩ : ∃ n, l.length = n := ⟨_, rfl⟩
  obtain ⟨m, hm⟩ : ∃ m, c.length = m := ⟨_, rfl⟩
  have HOK : Hid _ := hok
  have HCL : Hid _ := hcl
  clear hok hcl
  by_cases q1 : okF (fn l) l.length = true
  · by_cases q2 : clsOk (fn c) c.length = true
    · have HO := HOK.out true q1
      have HC := HCL.out true q2
      by_cases q3 : l.length = c.length
      · rw [mateR_yes q1 q2 q3]
        have h80 := okF_len q1
        rw [hm] at q3 h2 HC ⊢
        rw [hn] at q3 h80 h1 HO ⊢
        subst q3
        rcases h1 with ⟨a1, c1, e1, rfl⟩ | ⟨b1, o1, c1, e1, hb1, hlc1, hcm1, hat1⟩
        · simp only [Value.slice.injEq] at e1
          obtain ⟨rfl, rfl, rfl⟩ := e1
          have HOz : Hid _ := HO
          have HCz : Hid _ := HC
          clear HO HC h2 hm hn
          go_enter Tryz.func67, Tryz.ntmps67
          go_wp2_with (first | (go_at_call 56; refine Calls.mono HOz.out ?_; rintro e w1 ⟨rfl, hw1⟩; rw [hw1]; clear hw1 w1) | (go_at_call 98; refine Calls.mono HCz.out ?_; rintro e w1 ⟨rfl, hw1⟩; rw [hw1]; clear hw1 w1))
          refine wp_loop_rounds 1 ?_
          rw [rounds_succ]
          go_wp2_with (go_at_call 107; refine (sort_none _ _ _).mono ?_; rintro e w5 ⟨rfl, hw5⟩; rw [hw5]; clear hw5 w5)
          go_ret
          exact ⟨⟨_, rfl, [], RR.nil _ _⟩, Below.refl _ _⟩
        · rw [hn] at e1 hlc1
          simp only [Value.slice.injEq] at e1
          obtain ⟨rfl, _, rfl⟩ := e1
          rcases h2 with ⟨a2, c2, e2, e3⟩ | ⟨b2, o2, c2, e2, hb2, hlc2, hcm2, hat2⟩
          · simp only [Value.slice.injEq] at e2
            obtain ⟨rfl, rfl, rfl⟩ := e2
            have HOz : Hid _ := HO
            have HCz : Hid _ := HC
            clear HO HC hm hat1 hlc1
            go_enter Tryz.func67, Tryz.ntmps67
            go_wp2_with (first | (go_at_call 56; refine Calls.mono HOz.out ?_; rintro e w1 ⟨rfl, hw1⟩; rw [hw1]; clear hw1 w1) | (go_at_call 98; refine Calls.mono HCz.out ?_; rintro e w1 ⟨rfl, hw1⟩; rw [hw1]; clear hw1 w1))
            refine wp_loop_rounds 1 ?_
            rw [rounds_succ]
            go_wp2_with (go_at_call 107; refine (sort_none _ _ _).mono ?_; rintro e w5 ⟨rfl, hw5⟩; rw [hw5]; clear hw5 w5)
            go_ret
            exact ⟨⟨_, rfl, [], RR.nil _ _⟩, Below.refl _ _⟩
          · rw [hm] at e2 hlc2
            simp only [Value.slice.injEq] at e2
            obtain ⟨rfl, _, rfl⟩ := e2
            refine (implMates_row b1 o1 b2 o2 n ca cb l c w hn hm h80 hb1 hb2 hat1 hat2 HO HC).mono ?_
            rintro e w1 ⟨⟨v, zs, rfl, hz, hmm⟩, b1⟩
            exact ⟨⟨v, rfl, _, by rw [← hmm]; exact hz.rr⟩, b1⟩
      · rw [mateR_no (fun h => q3 h.2.2)]
        rw [hm] at q3 h2 HC ⊢
        rw [hn] at q3 h1 HO ⊢
        have hq3 : ((n : Int) == (m : Int)) = false := by simp; omega
        have HOz : Hid _ := HO
        have HCz : Hid _ := HC
        clear HO HC h2 hm hn h1
        go_enter Tryz.func67, Tryz.ntmps67
        go_wp2_with (first | (go_at_call 56; refine Calls.mono HOz.out ?_; rintro e w1 ⟨rfl, hw1⟩; rw [hw1]; clear hw1 w1) | (go_at_call 98; refine Calls.mono HCz.out ?_; rintro e w1 ⟨rfl, hw1⟩; rw [hw1]; clear hw1 w1))
        go_ret
        exact ⟨⟨_, rfl, [], RR.nil _ _⟩, Below.refl _ _⟩
    · have q2' : clsOk (fn c) c.length = false := by simpa using q2
      have HO := HOK.out true q1
      have HC := HCL.out false q2'
      rw [mateR_no (fun h => q2 h.2.1)]
      rw [hm] at h2 HC ⊢
      rw [hn] at h1 HO ⊢
      have HOz : Hid _ := HO
      have HCz : Hid _ := HC
      clear HO HC h2 hm hn h1
      go_enter Tryz.func67, Tryz.ntmps67
      go_wp2_with (first | (go_at_call 56; refine Calls.mono HOz.out ?_; rintro e w1 ⟨rfl, hw1⟩; rw [hw1]; clear hw1 w1) | (go_at_call 98; refine Calls.mono HCz.out ?_; rintro e w1 ⟨rfl, hw1⟩; rw [hw1]; clear hw1 w1))
      go_ret
      exact ⟨⟨_, rfl, [], RR.nil _ _⟩, Below.refl _ _⟩
  · have q1' : okF (fn l) l.length = false := by simpa using q1
    have HO := HOK.out false q1'
    rw [mateR_no (fun h => q1 h.1)]
    rw [hm] at h2 ⊢
    rw [hn] at h1 HO ⊢
    have HOz : Hid _ := HO
    clear HO h2 hm hn h1
    go_enter Tryz.func67, Tryz.ntmps67
    go_wp2_with (go_at_call 56; refine Calls.mono HOz.out ?_; rintro e w1 ⟨rfl, hw1⟩; rw [hw1]; clear hw1 w1)
    go_ret
    exact ⟨⟨_, rfl, [], RR.nil _ _⟩, Below.refl _ _⟩

end Go.Proofs.YtgojdlbidjnmmaaGreat
