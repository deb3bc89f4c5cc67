import Derived.Test.YtgojdlbidjnmmaaGreatBidi
import Derived.Test.YtgojdlbidjnmmaaGreatSides
import Derived.Test.YtgojdlbidjnmmaaGreatOk
namespace Go.Proofs.YtgojdlbidjnmmaaGreat
open Go.ChangeShapes Go.WideShapes Go.ChangeAt Go.RowKit
set_option linter.unusedSimpArgs false

set_option maxHeartbeats 4000000 in
theorem specBaseL (b off cap n : Nat) (l : List Int) (mt : Nat → Nat) (f t : Int) (from0 to0 : Nat) (w : World) (hn : l.length = n) (hb : b < w.heap.size) (hat : At w b off l) (hl : n ≤ 4194304) (hmt : Hid (MateFn (cl l) n mt)) (hf : f = (from0 : Int)) (ht : t = (to0 : Int)) (hfn : from0 ≤ n) (htn : to0 ≤ n) :
    Calls Tryz.prog 141 #[.slice (some ⟨b, off, none⟩) n cap, .int .i64 f, .int .i64 t] w fun e w' => e = .returned (.int .i64 (sideFrom (cl l) mt to0 from0)) ∧ Below w.heap.size w w' := by
  subst hf ht
  go_enter Tryz.func141, Tryz.ntmps141
  go_wp2
  go_loopw [7] (fun i wr => ∃ k : Nat, k ≤ n + 1 ∧ i = .int .i64 k ∧ Hid (sideFrom (cl l) mt to0 k = sideFrom (cl l) mt to0 from0) ∧ Below w.heap.size w wr) (fun i _ => n + 1 - (intOf i).toNat)
  case atStart => exact ⟨from0, by omega, rfl, rfl, Below.refl _ _⟩
  case round =>
    obtain ⟨k, hk, rfl, hS, hbel⟩ := hrel
    by_cases hlt : k < to0
    · have hcell : wr.cell? ⟨b, off + k, none⟩ = some (.int .i64 (fn l k)) := (hat.below hbel hb) k (by omega)
      have hkn : (k : Int) < (n : Int) := by omega
      obtain ⟨ck, hck⟩ : ∃ ck, cl l k = ck := ⟨_, rfl⟩
      have HCK : Hid (bidi (fn l k) = ck) := hck
      have HCK2 : Hid (cl l k = ck) := hck
      clear hck
      by_cases h1 : ck = 1
      · have h1b : (ck == 1) = true := by simpa using h1
        have HR : Hid _ := side_L (c := cl l) (mt := mt) hlt (by rw [HCK2.out]; exact h1)
        clear h1
        go_wp2_with (go_at_call 10; refine (specBidi _ _).mono ?_; rintro e w2 ⟨rfl, b2⟩; rw [HCK.out])
        go_ret
        exact ⟨retInt (by rw [← hS.out, HR.out]), bstep hbel b2⟩
      · have h1b : (ck == 1) = false := by simpa using h1
        by_cases h23 : ck = 2 ∨ ck = 3
        · have HR : Hid _ := side_R (c := cl l) (mt := mt) hlt (by rw [HCK2.out]; exact h1) (by rw [HCK2.out]; exact h23)
          by_cases h2 : ck = 2
          · have h2b : (ck == 2) = true := by simpa using h2
            clear h1 h23 h2
            go_wp2_with (go_at_call 10; refine (specBidi _ _).mono ?_; rintro e w2 ⟨rfl, b2⟩; rw [HCK.out])
            go_ret
            exact ⟨retInt (by rw [← hS.out, HR.out]), bstep hbel b2⟩
          · have h2b : (ck == 2) = false := by simpa using h2
            have h3b : (ck == 3) = true := by simp; omega
            clear h1 h23 h2
            go_wp2_with (go_at_call 10; refine (specBidi _ _).mono ?_; rintro e w2 ⟨rfl, b2⟩; rw [HCK.out])
            go_ret
            exact ⟨retInt (by rw [← hS.out, HR.out]), bstep hbel b2⟩
        · have h2b : (ck == 2) = false := by simp; omega
          have h3b : (ck == 3) = false := by simp; omega
          cases ho : opensB ck
          · have HR : Hid _ := side_other (c := cl l) (mt := mt) hlt (by rw [HCK2.out]; exact h1) (by rw [HCK2.out]; exact h23) (by rw [HCK2.out]; exact ho)
            clear h1 h23
            go_wp2_with (first | (go_at_call 10; refine (specBidi _ _).mono ?_; rintro e w2 ⟨rfl, b2⟩; rw [HCK.out]) | (go_at_call 120; refine (specOpens _ _).mono ?_; rintro e w3 ⟨rfl, rfl⟩))
            go_roundw
            case rel => exact ⟨k + 1, by omega, by go_num, show _ = _ by rw [← hS.out, HR.out], bstep hbel b2⟩
            case measure => simp only [intOf]; omega
          · have hop : opensB (cl l k) = true := by rw [HCK2.out]; exact ho
            have hg := mt_gt hmt.out (show k < n by omega) hop
            have HR : Hid _ := side_open (c := cl l) (mt := mt) hlt (by rw [HCK2.out]; exact h1) (by rw [HCK2.out]; exact h23) hop hg.1
            have HO : Hid _ := hop
            clear h1 h23 hop
            go_wp2_with (first | (go_at_call 10; refine (specBidi _ _).mono ?_; rintro e w2 ⟨rfl, b2⟩; rw [HCK.out]) | (go_at_call 120; refine (specOpens _ _).mono ?_; rintro e w3 ⟨rfl, rfl⟩) | (go_at_call 121; refine (specMateL b off cap n l mt _ k _ hn (Nat.lt_of_lt_of_le hb (bstep hbel b2).size) (hat.below (bstep hbel b2) hb) hl hmt rfl (by omega) HO.out).mono ?_; rintro e w4 ⟨rfl, b4⟩))
            go_roundw
            case rel => exact ⟨mt k + 1, by omega, by go_num, show _ = _ by rw [← hS.out, HR.out], bstep (bstep hbel b2) b4⟩
            case measure => simp only [intOf]; omega
    · have HR : Hid _ := side_end (c := cl l) (mt := mt) hlt
      go_wp2_with fail
      go_ret
      exact ⟨retInt (by rw [← hS.out, HR.out]), hbel⟩

set_option maxHeartbeats 4000000 in
theorem implSide (b off cap n gm om cm : Nat) (cs M : List Int) (c : Nat → Int) (mt : Nat → Nat) (f t : Int) (from0 to0 : Nat) (w : World) (hn : cs.length = n) (hMl : M.length = n) (hat : At w b off cs) (hatM : At w gm om M) (hl : n ≤ 4194304) (hc : Hid (∀ j, j < n → fn cs j = c j)) (hmt : Hid (MateFn c n mt)) (hsm : Hid (SameMates c n mt M)) (hf : f = (from0 : Int)) (ht : t = (to0 : Int)) (hfn : from0 ≤ n) (htn : to0 ≤ n) :
    Calls Tryz.prog 135 #[.slice (some ⟨b, off, none⟩) n cap, .slice (some ⟨gm, om, none⟩) n cm, .int .i64 f, .int .i64 t] w fun e w' => e = .returned (.int .i64 (sideFrom c mt to0 from0)) ∧ w' = w := by
  subst hf ht
  go_enter Tryz.func135, Tryz.ntmps135
  go_wp2
  go_loop [9] (fun i => ∃ k : Nat, k ≤ n + 1 ∧ i = .int .i64 k ∧ Hid (sideFrom c mt to0 k = sideFrom c mt to0 from0)) (fun i => n + 1 - (intOf i).toNat)
  case atStart => exact ⟨from0, by omega, rfl, rfl⟩
  case round =>
    obtain ⟨k, hk, rfl, hS⟩ := hrel
    by_cases hlt : k < to0
    · obtain ⟨ck, hck⟩ : ∃ ck, c k = ck := ⟨_, rfl⟩
      have hcell : w.cell? ⟨b, off + k, none⟩ = some (.int .i64 ck) := by
        rw [← hck, ← hc.out k (by omega)]; exact hat k (by omega)
      have hcm : w.cell? ⟨gm, om + k, none⟩ = some (.int .i64 (fn M k)) := hatM k (by omega)
      have hkn : (k : Int) < (n : Int) := by omega
      have HCK2 : Hid (c k = ck) := hck
      clear hck
      by_cases h1 : ck = 1
      · have h1b : (ck == 1) = true := by simpa using h1
        have HR : Hid _ := side_L (c := c) (mt := mt) hlt (by rw [HCK2.out]; exact h1)
        clear h1
        go_wp2_with fail
        go_ret
        exact ⟨retInt (by rw [← hS.out, HR.out]), rfl⟩
      · have h1b : (ck == 1) = false := by simpa using h1
        by_cases h23 : ck = 2 ∨ ck = 3
        · have HR : Hid _ := side_R (c := c) (mt := mt) hlt (by rw [HCK2.out]; exact h1) (by rw [HCK2.out]; exact h23)
          by_cases h2 : ck = 2
          · have h2b : (ck == 2) = true := by simpa using h2
            clear h1 h23 h2
            go_wp2_with fail
            go_ret
            exact ⟨retInt (by rw [← hS.out, HR.out]), rfl⟩
          · have h2b : (ck == 2) = false := by simpa using h2
            have h3b : (ck == 3) = true := by simp; omega
            clear h1 h23 h2
            go_wp2_with fail
            go_ret
            exact ⟨retInt (by rw [← hS.out, HR.out]), rfl⟩
        · have h2b : (ck == 2) = false := by simp; omega
          have h3b : (ck == 3) = false := by simp; omega
          cases ho : opensB ck
          · have HR : Hid _ := side_other (c := c) (mt := mt) hlt (by rw [HCK2.out]; exact h1) (by rw [HCK2.out]; exact h23) (by rw [HCK2.out]; exact ho)
            clear h1 h23
            go_wp2_with (go_at_call 91; refine (implOpens _ _).mono ?_; rintro e w3 ⟨rfl, rfl⟩)
            go_round
            case rel => exact ⟨k + 1, by omega, by go_num, show _ = _ by rw [← hS.out, HR.out]⟩
            case measure => simp only [intOf]; omega
          · have hop : opensB (c k) = true := by rw [HCK2.out]; exact ho
            have hg := mt_gt hmt.out (show k < n by omega) hop
            have HR : Hid _ := side_open (c := c) (mt := mt) hlt (by rw [HCK2.out]; exact h1) (by rw [HCK2.out]; exact h23) hop hg.1
            have hMk := hsm.out k (by omega) hop
            clear h1 h23 hop
            rcases hMk with ⟨m1, m2⟩ | ⟨m1, m2⟩
            · rw [m2] at hcm
              clear m2
              go_wp2_with (go_at_call 91; refine (implOpens _ _).mono ?_; rintro e w3 ⟨rfl, rfl⟩)
              go_round
              case rel => exact ⟨mt k + 1, by omega, by go_num, show _ = _ by rw [← hS.out, HR.out]⟩
              case measure => simp only [intOf]; omega
            · rw [m2] at hcm
              have HE : Hid (sideFrom c mt to0 from0 = 0) := by
                show sideFrom c mt to0 from0 = 0
                rw [← hS.out, HR.out, side_end (by omega)]
              clear m2 m1
              go_wp2_with (go_at_call 91; refine (implOpens _ _).mono ?_; rintro e w3 ⟨rfl, rfl⟩)
              go_ret
              exact ⟨retInt HE.out.symm, rfl⟩
    · have HR : Hid _ := side_end (c := c) (mt := mt) hlt
      go_wp2_with fail
      go_ret
      exact ⟨retInt (by rw [← hS.out, HR.out]), rfl⟩
end Go.Proofs.YtgojdlbidjnmmaaGreat
