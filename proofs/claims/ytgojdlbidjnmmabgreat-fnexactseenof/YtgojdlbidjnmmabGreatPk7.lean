import Derived.Deep.RegionHeld3
import Derived.RegionTactic
import Derived.BigRegion
import Derived.Test.YtgojdlbidjnmmabGreatPk1
import Derived.Test.YtgojdlbidjnmmabGreatPk3
import Derived.Test.YtgojdlbidjnmmabGreatPk4
import Derived.Test.YtgojdlbidjnmmabGreatPk6
namespace Go.Proofs.YtgojdlbidjnmmabGreat
open Go.ChangeShapes Go.WideShapes Go.ChangeAt Go.RowKit
set_option linter.unusedSimpArgs false

def sizeF (r : Int) : Int :=
  if 0 ≤ r ∧ r ≤ 127 then 1 else if 128 ≤ r ∧ r ≤ 2047 then 2 else if 55296 ≤ r ∧ r ≤ 57343 then 0 else if 2048 ≤ r ∧ r ≤ 65535 then 3 else if 65536 ≤ r ∧ r ≤ 1114111 then 4 else 0
theorem sizeF_zero (r : Int) : sizeF r = 0 ↔ letter r = false := by
  unfold sizeF letter
  rw [decide_eq_false_iff_not]
  by_cases h1 : 0 ≤ r ∧ r ≤ 127
  · rw [if_pos h1]; omega
  · by_cases h2 : 128 ≤ r ∧ r ≤ 2047
    · rw [if_neg h1, if_pos h2]; omega
    · by_cases h3 : 55296 ≤ r ∧ r ≤ 57343
      · rw [if_neg h1, if_neg h2, if_pos h3]; omega
      · by_cases h4 : 2048 ≤ r ∧ r ≤ 65535
        · rw [if_neg h1, if_neg h2, if_neg h3, if_pos h4]; omega
        · by_cases h5 : 65536 ≤ r ∧ r ≤ 1114111
          · rw [if_neg h1, if_neg h2, if_neg h3, if_neg h4, if_pos h5]; omega
          · rw [if_neg h1, if_neg h2, if_neg h3, if_neg h4, if_neg h5]; omega

set_option maxHeartbeats 1000000 in
theorem specSize (r : Int) (w : World) : Calls Tryz.prog 51 #[.int .i64 r] w fun e w' => e = .returned (.int .i64 (sizeF r)) ∧ w' = w := by
  go_enter Tryz.func51, Tryz.ntmps51
  go_wp2_with (go_at_call 17; refine (specIn _ _ _ _).mono ?_; rintro e w' ⟨rfl, rfl⟩)
  all_goals (go_ret; refine ⟨retInt ?_, rfl⟩)
  all_goals (try simp only [beq_iff_eq, beq_eq_false_iff_ne, ne_eq, inB, decide_eq_true_eq, decide_eq_false_iff_not] at *)
  all_goals (unfold sizeF)
  all_goals (repeat (first | rfl | rw [if_pos (by omega)] | rw [if_neg (by omega)]))

theorem okF_all {z : Nat → Int} {n : Nat} (h : ∀ j, j < n → letter (z j) = true) : okF z n = decide (n ≤ 80) := by
  have : allB (fun j => letter (z j)) n = true := (allB_iff _ _).2 h
  simp [okF, this]
theorem okF_no {z : Nat → Int} {n k : Nat} (hk : k < n) (h : letter (z k) = false) : okF z n = false := by
  simp [okF, allB_false (p := fun j => letter (z j)) hk h]
theorem okF_long {z : Nat → Int} {n : Nat} (h : 80 < n) : okF z n = false := by
  simp [okF]; omega
theorem okF_len {z : Nat → Int} {n : Nat} (h : okF z n = true) : n ≤ 80 := by
  simp [okF] at h; omega
theorem okF_get {z : Nat → Int} {n : Nat} (h : okF z n = true) {j : Nat} (hj : j < n) : letter (z j) = true := by
  simp only [okF, Bool.and_eq_true] at h; exact (allB_iff _ _).1 h.2 j hj
theorem letter_bounds {r : Int} (h : letter r = true) : 0 ≤ r ∧ r ≤ 1114111 := by
  simp [letter] at h; omega

set_option maxHeartbeats 1000000 in
theorem specOk (v : Value) (l : List Int) (w : World) (hv : Arg w v l) (hl : l.length ≤ 4194304) :
    Calls Tryz.prog 32 #[v] w fun e w' => e = .returned (.bool (okF (fn l) l.length)) ∧ w' = w := by
  rcases hv with ⟨a0, c0, rfl, rfl⟩ | ⟨b, off, cap, rfl, hb, hlc, hcm, hat⟩
  · go_enter Tryz.func32, Tryz.ntmps32
    go_wp2
    go_rounds 1
    go_ret
    exact ⟨rfl, rfl⟩
  · obtain ⟨n, hn⟩ : ∃ n, l.length = n := ⟨_, rfl⟩
    rw [hn] at hl ⊢
    go_enter Tryz.func32, Tryz.ntmps32
    go_wp2
    go_loop [3] (fun i => ∃ k : Nat, k ≤ n ∧ i = .int .i64 k ∧ Hid (∀ j, j < k → letter (fn l j) = true)) (fun i => n - (intOf i).toNat)
    case atStart => exact ⟨0, Nat.zero_le _, rfl, fun j hj => by omega⟩
    case round =>
      obtain ⟨k, hk, rfl, hok⟩ := hrel
      by_cases hlt : k < n
      · have hcell : w.cell? ⟨b, off + k, none⟩ = some (.int .i64 (fn l k)) := hat k (by omega)
        by_cases hq : letter (fn l k) = true
        · have hs : (sizeF (fn l k) == 0) = false := by
            rw [beq_eq_false_iff_ne]; intro h; rw [sizeF_zero, hq] at h; cases h
          go_wp2_with (go_at_call 51; refine (specSize _ _).mono ?_; rintro e w' ⟨rfl, rfl⟩)
          go_round
          case rel =>
            refine ⟨k + 1, by omega, by go_num, fun j hj => ?_⟩
            by_cases ej : j = k
            · subst ej; exact hq
            · exact hok.out j (by omega)
          case measure => simp only [intOf]; omega
        · have hs : (sizeF (fn l k) == 0) = true := by
            rw [beq_iff_eq, sizeF_zero]; simpa using hq
          go_wp2_with (go_at_call 51; refine (specSize _ _).mono ?_; rintro e w' ⟨rfl, rfl⟩)
          go_ret
          exact ⟨retBool (okF_no hlt (by simpa using hq)).symm, rfl⟩
      · have e : k = n := by omega
        subst e
        go_wp2
        go_ret
        refine ⟨retBool ?_, rfl⟩
        rw [okF_all hok.out]
        first | rfl | (congr 1; simp; omega)

set_option maxHeartbeats 1000000 in
theorem implOk (v : Value) (l : List Int) (w : World) (hv : Arg w v l) (hl : l.length ≤ 4194304) :
    Calls Tryz.prog 71 #[v] w fun e w' => e = .returned (.bool (okF (fn l) l.length)) ∧ w' = w := by
  rcases hv with ⟨a0, c0, rfl, rfl⟩ | ⟨b, off, cap, rfl, hb, hlc, hcm, hat⟩
  · go_enter Tryz.func71, Tryz.ntmps71
    go_wp2
    go_rounds 1
    go_ret
    exact ⟨rfl, rfl⟩
  · obtain ⟨n, hn⟩ : ∃ n, l.length = n := ⟨_, rfl⟩
    rw [hn] at hl ⊢
    by_cases h80 : 80 < n
    · go_enter Tryz.func71, Tryz.ntmps71
      go_wp2
      go_ret
      exact ⟨retBool (okF_long h80).symm, rfl⟩
    · go_enter Tryz.func71, Tryz.ntmps71
      go_wp2
      go_loop [10] (fun i => ∃ k : Nat, k ≤ n ∧ i = .int .i64 k ∧ Hid (∀ j, j < k → letter (fn l j) = true)) (fun i => n - (intOf i).toNat)
      case atStart => exact ⟨0, Nat.zero_le _, rfl, fun j hj => by omega⟩
      case round =>
        obtain ⟨k, hk, rfl, hok⟩ := hrel
        by_cases hlt : k < n
        · have hcell : w.cell? ⟨b, off + k, none⟩ = some (.int .i64 (fn l k)) := hat k (by omega)
          go_wp2
          all_goals first
            | (go_ret; exact ⟨retBool (okF_no hlt (by simp only [letter, decide_eq_false_iff_not]; omega)).symm, rfl⟩)
            | (refine ⟨⟨k + 1, by omega, by go_num, fun j hj => ?_⟩, by simp only [intOf]; omega⟩
               by_cases ej : j = k
               · subst ej; simp only [letter, decide_eq_true_eq]; omega
               · exact hok.out j (by omega))
        · have e : k = n := by omega
          subst e
          go_wp2
          go_ret
          refine ⟨retBool ?_, rfl⟩
          rw [okF_all hok.out]
          simp; omega
end Go.Proofs.YtgojdlbidjnmmabGreat
namespace Go.Proofs.YtgojdlbidjnmmabGreat
open Go.ChangeShapes Go.WideShapes Go.ChangeAt Go.RowKit
set_option linter.unusedSimpArgs false

set_option maxHeartbeats 4000000 in
theorem specBaseL (b off cap n : Nat) (l : List Int) (mt : Nat → Nat) (f t : Int) (from0 to0 : Nat) (w : World) (hn : l.length = n) (hb : b < w.heap.size) (hat : At w b off l) (hl : n ≤ 4194304) (hmt : Hid (MateFn (cl l) n mt)) (hf : f = (from0 : Int)) (ht : t = (to0 : Int)) (hfn : from0 ≤ n) (htn : to0 ≤ n) :
    Calls Tryz.prog 90 #[.slice (some ⟨b, off, none⟩) n cap, .int .i64 f, .int .i64 t] w fun e w' => e = .returned (.int .i64 (sideFrom (cl l) mt to0 from0)) ∧ Below w.heap.size w w' := by
  subst hf ht
  go_enter Tryz.func90, Tryz.ntmps90
  go_wp2
  go_loopw [7] (fun i wr => ∃ k : Nat, k ≤ n + 1 ∧ i = .int .i64 k ∧ Hid (sideFrom (cl l) mt to0 k = sideFrom (cl l) mt to0 from0) ∧ Below w.heap.size w wr) (fun i _ => n + 1 - (intOf i).toNat)
  case atStart => exact ⟨from0, by omega, rfl, rfl, Below.refl _ _⟩
  case round =>
    obtain ⟨k, hk, rfl, hS, hbel⟩ := hrel
    by_cases hlt : k < to0
    · have hcell : wr.cell? ⟨b, off + k, none⟩ = some (.int .i64 (fn l k)) := (hat.below hbel hb) k (by omega)
      have hkn : (k : Int) < (n : Int) := by omega
      obtain ⟨ck, hck⟩ : ∃ ck, cl l k = ck := ⟨_, rfl⟩
      have HCK : Hid (bidi (fn l k) = ck) := hck
      have HCK2 : Hid (cl l k = ck) := hck
      clear hck
      by_cases h1 : ck = 1
      · have h1b : (ck == 1) = true := by simpa using h1
        have HR : Hid _ := side_L (c := cl l) (mt := mt) hlt (by rw [HCK2.out]; exact h1)
        clear h1
        go_wp2_with (go_at_call 33; refine (specBidi _ _).mono ?_; rintro e w2 ⟨rfl, b2⟩; rw [HCK.out])
        go_ret
        exact ⟨retInt (by rw [← hS.out, HR.out]), bstep hbel b2⟩
      · have h1b : (ck == 1) = false := by simpa using h1
        by_cases h23 : ck = 2 ∨ ck = 3
        · have HR : Hid _ := side_R (c := cl l) (mt := mt) hlt (by rw [HCK2.out]; exact h1) (by rw [HCK2.out]; exact h23)
          by_cases h2 : ck = 2
          · have h2b : (ck == 2) = true := by simpa using h2
            clear h1 h23 h2
            go_wp2_with (go_at_call 33; refine (specBidi _ _).mono ?_; rintro e w2 ⟨rfl, b2⟩; rw [HCK.out])
            go_ret
            exact ⟨retInt (by rw [← hS.out, HR.out]), bstep hbel b2⟩
          · have h2b : (ck == 2) = false := by simpa using h2
            have h3b : (ck == 3) = true := by simp; omega
            clear h1 h23 h2
            go_wp2_with (go_at_call 33; refine (specBidi _ _).mono ?_; rintro e w2 ⟨rfl, b2⟩; rw [HCK.out])
            go_ret
            exact ⟨retInt (by rw [← hS.out, HR.out]), bstep hbel b2⟩
        · have h2b : (ck == 2) = false := by simp; omega
          have h3b : (ck == 3) = false := by simp; omega
          cases ho : opensB ck
          · have HR : Hid _ := side_other (c := cl l) (mt := mt) hlt (by rw [HCK2.out]; exact h1) (by rw [HCK2.out]; exact h23) (by rw [HCK2.out]; exact ho)
            clear h1 h23
            go_wp2_with (first | (go_at_call 33; refine (specBidi _ _).mono ?_; rintro e w2 ⟨rfl, b2⟩; rw [HCK.out]) | (go_at_call 59; refine (specOpens _ _).mono ?_; rintro e w3 ⟨rfl, rfl⟩))
            go_roundw
            case rel => exact ⟨k + 1, by omega, by go_num, show _ = _ by rw [← hS.out, HR.out], bstep hbel b2⟩
            case measure => simp only [intOf]; omega
          · have hop : opensB (cl l k) = true := by rw [HCK2.out]; exact ho
            have hg := mt_gt hmt.out (show k < n by omega) hop
            have HR : Hid _ := side_open (c := cl l) (mt := mt) hlt (by rw [HCK2.out]; exact h1) (by rw [HCK2.out]; exact h23) hop hg.1
            have HO : Hid _ := hop
            clear h1 h23 hop
            go_wp2_with (first | (go_at_call 33; refine (specBidi _ _).mono ?_; rintro e w2 ⟨rfl, b2⟩; rw [HCK.out]) | (go_at_call 59; refine (specOpens _ _).mono ?_; rintro e w3 ⟨rfl, rfl⟩) | (go_at_call 60; refine (specMateL b off cap n l mt _ k _ hn (Nat.lt_of_lt_of_le hb (bstep hbel b2).size) (hat.below (bstep hbel b2) hb) hl hmt rfl (by omega) HO.out).mono ?_; rintro e w4 ⟨rfl, b4⟩))
            go_roundw
            case rel => exact ⟨mt k + 1, by omega, by go_num, show _ = _ by rw [← hS.out, HR.out], bstep (bstep hbel b2) b4⟩
            case measure => simp only [intOf]; omega
    · have HR : Hid _ := side_end (c := cl l) (mt := mt) hlt
      go_wp2_with fail
      go_ret
      exact ⟨retInt (by rw [← hS.out, HR.out]), hbel⟩

set_option maxHeartbeats 4000000 in
theorem implSide (b off cap n gm om cm : Nat) (cs M : List Int) (c : Nat → Int) (mt : Nat → Nat) (f t : Int) (from0 to0 : Nat) (w : World) (hn : cs.length = n) (hMl : M.length = n) (hat : At w b off cs) (hatM : At w gm om M) (hl : n ≤ 4194304) (hc : Hid (∀ j, j < n → fn cs j = c j)) (hmt : Hid (MateFn c n mt)) (hsm : Hid (SameMates c n mt M)) (hf : f = (from0 : Int)) (ht : t = (to0 : Int)) (hfn : from0 ≤ n) (htn : to0 ≤ n) :
    Calls Tryz.prog 118 #[.slice (some ⟨b, off, none⟩) n cap, .slice (some ⟨gm, om, none⟩) n cm, .int .i64 f, .int .i64 t] w fun e w' => e = .returned (.int .i64 (sideFrom c mt to0 from0)) ∧ w' = w := by
  subst hf ht
  go_enter Tryz.func118, Tryz.ntmps118
  go_wp2
  go_loop [9] (fun i => ∃ k : Nat, k ≤ n + 1 ∧ i = .int .i64 k ∧ Hid (sideFrom c mt to0 k = sideFrom c mt to0 from0)) (fun i => n + 1 - (intOf i).toNat)
  case atStart => exact ⟨from0, by omega, rfl, rfl⟩
  case round =>
    obtain ⟨k, hk, rfl, hS⟩ := hrel
    by_cases hlt : k < to0
    · obtain ⟨ck, hck⟩ : ∃ ck, c k = ck := ⟨_, rfl⟩
      have hcell : w.cell? ⟨b, off + k, none⟩ = some (.int .i64 ck) := by
        rw [← hck, ← hc.out k (by omega)]; exact hat k (by omega)
      have hcm : w.cell? ⟨gm, om + k, none⟩ = some (.int .i64 (fn M k)) := hatM k (by omega)
      have hkn : (k : Int) < (n : Int) := by omega
      have HCK2 : Hid (c k = ck) := hck
      clear hck
      by_cases h1 : ck = 1
      · have h1b : (ck == 1) = true := by simpa using h1
        have HR : Hid _ := side_L (c := c) (mt := mt) hlt (by rw [HCK2.out]; exact h1)
        clear h1
        go_wp2_with fail
        go_ret
        exact ⟨retInt (by rw [← hS.out, HR.out]), rfl⟩
      · have h1b : (ck == 1) = false := by simpa using h1
        by_cases h23 : ck = 2 ∨ ck = 3
        · have HR : Hid _ := side_R (c := c) (mt := mt) hlt (by rw [HCK2.out]; exact h1) (by rw [HCK2.out]; exact h23)
          by_cases h2 : ck = 2
          · have h2b : (ck == 2) = true := by simpa using h2
            clear h1 h23 h2
            go_wp2_with fail
            go_ret
            exact ⟨retInt (by rw [← hS.out, HR.out]), rfl⟩
          · have h2b : (ck == 2) = false := by simpa using h2
            have h3b : (ck == 3) = true := by simp; omega
            clear h1 h23 h2
            go_wp2_with fail
            go_ret
            exact ⟨retInt (by rw [← hS.out, HR.out]), rfl⟩
        · have h2b : (ck == 2) = false := by simp; omega
          have h3b : (ck == 3) = false := by simp; omega
          cases ho : opensB ck
          · have HR : Hid _ := side_other (c := c) (mt := mt) hlt (by rw [HCK2.out]; exact h1) (by rw [HCK2.out]; exact h23) (by rw [HCK2.out]; exact ho)
            clear h1 h23
            go_wp2_with (go_at_call 93; refine (implOpens _ _).mono ?_; rintro e w3 ⟨rfl, rfl⟩)
            go_round
            case rel => exact ⟨k + 1, by omega, by go_num, show _ = _ by rw [← hS.out, HR.out]⟩
            case measure => simp only [intOf]; omega
          · have hop : opensB (c k) = true := by rw [HCK2.out]; exact ho
            have hg := mt_gt hmt.out (show k < n by omega) hop
            have HR : Hid _ := side_open (c := c) (mt := mt) hlt (by rw [HCK2.out]; exact h1) (by rw [HCK2.out]; exact h23) hop hg.1
            have hMk := hsm.out k (by omega) hop
            clear h1 h23 hop
            rcases hMk with ⟨m1, m2⟩ | ⟨m1, m2⟩
            · rw [m2] at hcm
              clear m2
              go_wp2_with (go_at_call 93; refine (implOpens _ _).mono ?_; rintro e w3 ⟨rfl, rfl⟩)
              go_round
              case rel => exact ⟨mt k + 1, by omega, by go_num, show _ = _ by rw [← hS.out, HR.out]⟩
              case measure => simp only [intOf]; omega
            · rw [m2] at hcm
              have HE : Hid (sideFrom c mt to0 from0 = 0) := by
                show sideFrom c mt to0 from0 = 0
                rw [← hS.out, HR.out, side_end (by omega)]
              clear m2 m1
              go_wp2_with (go_at_call 93; refine (implOpens _ _).mono ?_; rintro e w3 ⟨rfl, rfl⟩)
              go_ret
              exact ⟨retInt HE.out.symm, rfl⟩
    · have HR : Hid _ := side_end (c := c) (mt := mt) hlt
      go_wp2_with fail
      go_ret
      exact ⟨retInt (by rw [← hS.out, HR.out]), rfl⟩
end Go.Proofs.YtgojdlbidjnmmabGreat
namespace Go.Proofs.YtgojdlbidjnmmabGreat
open Go.ChangeShapes Go.WideShapes Go.ChangeAt Go.RowKit
set_option linter.unusedSimpArgs false
set_option linter.unusedVariables false


/-- Letters, their mates: what does not turn. -/
structure LIn (w : World) (n gm om cm gq oq cq : Nat) (cs M : List Int) : Prop where
  lm : gm < w.heap.size
  lq : gq < w.heap.size
  am : At w gm om cs
  aq : At w gq oq M
/-- What toldText and levelStack hold in memory. -/
structure TIn (w : World) (B T S gm gq gl gc n : Nat) (base : Int) (cs M lv cls : List Int) (top : Option Addr) (s : TS) : Prop where
  ge : B ≤ T
  lt : T < w.heap.size
  c0 : w.cell? ⟨T, 0, none⟩ = some (.int .i64 base)
  c1 : w.cell? ⟨T, 1, none⟩ = some (.slice (some ⟨gm, 0, none⟩) n n)
  c2 : w.cell? ⟨T, 2, none⟩ = some (.slice (some ⟨gq, 0, none⟩) n n)
  c3 : w.cell? ⟨T, 3, none⟩ = some (.slice (some ⟨gl, 0, none⟩) n n)
  c4 : w.cell? ⟨T, 4, none⟩ = some (.slice (some ⟨gc, 0, none⟩) n n)
  om : OwnI w B (.slice (some ⟨gm, 0, none⟩) n n) cs
  oq : OwnI w B (.slice (some ⟨gq, 0, none⟩) n n) M
  nm : gm ≠ T ∧ gm ≠ S ∧ gm ≠ gl ∧ gm ≠ gc
  nq : gq ≠ T ∧ gq ≠ S ∧ gq ≠ gl ∧ gq ≠ gc
  ol : OwnI w B (.slice (some ⟨gl, 0, none⟩) n n) lv
  oc : OwnI w B (.slice (some ⟨gc, 0, none⟩) n n) cls
  nlc : gl ≠ gc
  nTl : gl ≠ T
  nTc : gc ≠ T
  nTS : S ≠ T
  nSl : gl ≠ S
  nSc : gc ≠ S
  geS : B ≤ S
  st : SIn w (fun b => b = S ∨ b = T ∨ b = gl ∨ b = gc) S top s
section
variable {w w' : World} {B T S gl gc n : Nat} {base : Int} {gm gq : Nat} {cs M lv cls : List Int} {top : Option Addr} {s : TS}
theorem TIn.gllt (h : TIn w B T S gm gq gl gc n base cs M lv cls top s) : B ≤ gl ∧ gl < w.heap.size := h.ol.lt gl rfl
theorem TIn.gmlt (h : TIn w B T S gm gq gl gc n base cs M lv cls top s) : B ≤ gm ∧ gm < w.heap.size := h.om.lt gm rfl
theorem TIn.gqlt (h : TIn w B T S gm gq gl gc n base cs M lv cls top s) : B ≤ gq ∧ gq < w.heap.size := h.oq.lt gq rfl
theorem TIn.gclt (h : TIn w B T S gm gq gl gc n base cs M lv cls top s) : B ≤ gc ∧ gc < w.heap.size := h.oc.lt gc rfl
/-- The stack alone has turned. -/
theorem TIn.stack {top' : Option Addr} {s' : TS} (h : TIn w B T S gm gq gl gc n base cs M lv cls top s) (hg : w.grownBy w' (some S)) (hs : SIn w' (fun b => b = S ∨ b = T ∨ b = gl ∨ b = gc) S top' s') : TIn w' B T S gm gq gl gc n base cs M lv cls top' s' := by
  have hT := hg.block T h.lt (by simp; exact fun e => h.nTS e.symm)
  have e : ∀ j, w'.cell? ⟨T, j, none⟩ = w.cell? ⟨T, j, none⟩ := fun j => World.cell?_of_block hT
  exact ⟨h.ge, Nat.lt_of_lt_of_le h.lt hg.size, (e 0).trans h.c0, (e 1).trans h.c1, (e 2).trans h.c2, (e 3).trans h.c3, (e 4).trans h.c4,
    h.om.kept (fun k hk => by simp [Value.ownBlock] at hk; subst hk; exact hg.block _ h.gmlt.2 (by simp; exact h.nm.2.1)), h.oq.kept (fun k hk => by simp [Value.ownBlock] at hk; subst hk; exact hg.block _ h.gqlt.2 (by simp; exact h.nq.2.1)), h.nm, h.nq,
    h.ol.kept (fun k hk => by simp [Value.ownBlock] at hk; subst hk; exact hg.block _ h.gllt.2 (by simp; exact h.nSl)), h.oc.kept (fun k hk => by simp [Value.ownBlock] at hk; subst hk; exact hg.block _ h.gclt.2 (by simp; exact h.nSc)), h.nlc, h.nTl, h.nTc, h.nTS, h.nSl, h.nSc, h.geS, hs⟩
theorem TIn.below (h : TIn w B T S gm gq gl gc n base cs M lv cls top s) (hb : Below w.heap.size w w') : TIn w' B T S gm gq gl gc n base cs M lv cls top s := by
  have e : ∀ j, w'.cell? ⟨T, j, none⟩ = w.cell? ⟨T, j, none⟩ := fun j => World.cell?_of_block (hb.block T h.lt)
  exact ⟨h.ge, Nat.lt_of_lt_of_le h.lt hb.size, (e 0).trans h.c0, (e 1).trans h.c1, (e 2).trans h.c2, (e 3).trans h.c3, (e 4).trans h.c4, h.om.below hb, h.oq.below hb, h.nm, h.nq, h.ol.below hb, h.oc.below hb, h.nlc, h.nTl, h.nTc, h.nTS, h.nSl, h.nSc, h.geS, h.st.below hb⟩
theorem TIn.setL (h : TIn w B T S gm gq gl gc n base cs M lv cls top s) (i : Nat) (x : Int) : TIn (w.setCell ⟨gl, i, none⟩ (.int .i64 x)) B T S gm gq gl gc n base cs M (lv.set i x) cls top s := by
  have hblk : ∀ c, c ≠ gl → (w.setCell ⟨gl, i, none⟩ (.int .i64 x)).heap[c]? = w.heap[c]? := fun c hc => heap_setCell_other w ⟨gl, i, none⟩ c _ hc
  have e : ∀ j, (w.setCell ⟨gl, i, none⟩ (.int .i64 x)).cell? ⟨T, j, none⟩ = w.cell? ⟨T, j, none⟩ := fun j => World.cell?_of_block (hblk T (fun e => h.nTl e.symm))
  exact ⟨h.ge, by rw [World.size_setCell]; exact h.lt, (e 0).trans h.c0, (e 1).trans h.c1, (e 2).trans h.c2, (e 3).trans h.c3, (e 4).trans h.c4, h.om.kept (fun k hk => by simp [Value.ownBlock] at hk; subst hk; exact hblk _ h.nm.2.2.1), h.oq.kept (fun k hk => by simp [Value.ownBlock] at hk; subst hk; exact hblk _ h.nq.2.2.1), h.nm, h.nq, h.ol.storedN i x, h.oc.kept (fun k hk => by simp [Value.ownBlock] at hk; subst hk; exact hblk _ (fun e => h.nlc e.symm)), h.nlc, h.nTl, h.nTc, h.nTS, h.nSl, h.nSc, h.geS,
    h.st.kept (by rw [World.size_setCell]; exact Nat.le_refl _) (fun b hb _ => hblk b (fun e => by rcases hb with hb | hb; exact hb (.inr (.inr (.inl e))); exact h.nSl (e.symm.trans hb)))⟩
theorem TIn.setC (h : TIn w B T S gm gq gl gc n base cs M lv cls top s) (i : Nat) (x : Int) : TIn (w.setCell ⟨gc, i, none⟩ (.int .i64 x)) B T S gm gq gl gc n base cs M lv (cls.set i x) top s := by
  have hblk : ∀ c, c ≠ gc → (w.setCell ⟨gc, i, none⟩ (.int .i64 x)).heap[c]? = w.heap[c]? := fun c hc => heap_setCell_other w ⟨gc, i, none⟩ c _ hc
  have e : ∀ j, (w.setCell ⟨gc, i, none⟩ (.int .i64 x)).cell? ⟨T, j, none⟩ = w.cell? ⟨T, j, none⟩ := fun j => World.cell?_of_block (hblk T (fun e => h.nTc e.symm))
  exact ⟨h.ge, by rw [World.size_setCell]; exact h.lt, (e 0).trans h.c0, (e 1).trans h.c1, (e 2).trans h.c2, (e 3).trans h.c3, (e 4).trans h.c4, h.om.kept (fun k hk => by simp [Value.ownBlock] at hk; subst hk; exact hblk _ h.nm.2.2.2), h.oq.kept (fun k hk => by simp [Value.ownBlock] at hk; subst hk; exact hblk _ h.nq.2.2.2), h.nm, h.nq, h.ol.kept (fun k hk => by simp [Value.ownBlock] at hk; subst hk; exact hblk _ h.nlc), h.oc.storedN i x, h.nlc, h.nTl, h.nTc, h.nTS, h.nSl, h.nSc, h.geS,
    h.st.kept (by rw [World.size_setCell]; exact Nat.le_refl _) (fun b hb _ => hblk b (fun e => by rcases hb with hb | hb; exact hb (.inr (.inr (.inr e))); exact h.nSc (e.symm.trans hb)))⟩
theorem TIn.blwL (h : TIn w B T S gm gq gl gc n base cs M lv cls top s) {w0 : World} (hb : Below B w0 w) (j : Nat) (x : Value) : Below B w0 (w.setCell ⟨gl, j, none⟩ x) := hb.setCell h.gllt.1 _
theorem TIn.blwC (h : TIn w B T S gm gq gl gc n base cs M lv cls top s) {w0 : World} (hb : Below B w0 w) (j : Nat) (x : Value) : Below B w0 (w.setCell ⟨gc, j, none⟩ x) := hb.setCell h.gclt.1 _
theorem TIn.blwS (h : TIn w B T S gm gq gl gc n base cs M lv cls top s) {w0 : World} (hb : Below B w0 w) (hB : B ≤ w.heap.size) (hg : w.grownBy w' (some S)) : Below B w0 w' := hb.grown hg hB (fun k hk => by simp at hk; rw [← hk]; exact h.geS)
theorem TIn.lin (h : TIn w B T S gm gq gl gc n base cs M lv cls top s) : LIn w n gm 0 n gq 0 n cs M :=
  ⟨h.gmlt.2, h.gqlt.2, fun j hj => by have := h.om.len; rw [Nat.zero_add]; exact h.om.cellN j (by omega), fun j hj => by have := h.oq.len; rw [Nat.zero_add]; exact h.oq.cellN j (by omega)⟩
end

theorem side_01 (c : Nat → Int) (mt : Nat → Nat) (tt i : Nat) : sideFrom c mt tt i = 0 ∨ sideFrom c mt tt i = 1 := by
  unfold sideFrom
  generalize tt - i = d
  induction d generalizing i with
  | zero => exact .inl rfl
  | succ d ih =>
    simp only [sideG]
    repeat' split
    all_goals first | exact .inl rfl | exact .inr rfl | exact ih _

set_option maxHeartbeats 2000000 in
theorem implOpened {B T S gl gc n gm gq : Nat} {base : Int} {cs M lv cls : List Int} {top : Option Addr} {s : TS} (c : Nat → Int) (mt : Nat → Nat) (i : Nat) (w : World) (hi : i < n) (hn80 : n ≤ 1000) (hcs : cs.length = n) (hM : M.length = n) (hop : opensB (c i) = true)
    (hc : Hid (∀ j, j < n → fn cs j = c j)) (hmt : Hid (MateFn c n mt)) (hsm : Hid (SameMates c n mt M)) (h : TIn w B T S gm gq gl gc n base cs M lv cls top s) :
    Calls Tryz.prog 97 #[.pointer (some ⟨T, 0, none⟩), .int .i64 i] w fun e w' => e = .returned (.int .i64 (dirOf (rightT (c i) (sideFrom c mt (mt i) (i + 1))))) ∧ ∃ m, w' = w.drewN m := by
  have hL := h.lin
  have c1 := h.c1
  have c2 := h.c2
  obtain ⟨ck, hck⟩ : ∃ ck, c i = ck := ⟨_, rfl⟩
  have k1 := hL.am i (by omega)
  rw [hc.out i hi, hck, Nat.zero_add] at k1
  have k2 := hL.aq i (by omega)
  rw [Nat.zero_add] at k2
  have hi0 : (0 : Int) ≤ (i : Int) := by omega
  have hi1 : (i : Int) < (n : Int) := by omega
  have hmi := mt_gt hmt.out hi hop
  have hs := hsm.out i hi hop
  obtain ⟨fs, hfs⟩ : ∃ fs, sideFrom c mt (mt i) (i + 1) = fs := ⟨_, rfl⟩
  rw [hck, hfs]
  have HF : Hid _ := hfs
  have HCS : Hid _ := hcs
  have HM : Hid _ := hM
  have hop2 : 19 ≤ ck ∧ ck ≤ 21 := by rw [hck] at hop; simpa [opensB] using hop
  have HL : Hid _ := hL
  clear h hck hfs hcs hM hop hL
  have hwi : IntKind.i64.wrap ((i : Int) + 1) = (i : Int) + 1 := by rw [IntKind.wrap_i64]; omega
  have hii : Hid ((i : Int) + 1 = ((i + 1 : Nat) : Int)) := by show _ = _; omega
  have hfsb : fs = 0 ∨ fs = 1 := by
    rw [← HF.out]; exact side_01 _ _ _ _
  by_cases q20 : ck = 20
  · subst q20
    rw [show rightT 20 fs = true from by simp [rightT]]
    go_enter Tryz.func97, Tryz.ntmps97
    go_wp2_with fail
    go_ret
    exact ⟨rfl, 0, rfl⟩
  by_cases q19 : ck = 19
  · subst q19
    rw [show rightT 19 fs = false from by simp [rightT]]
    go_enter Tryz.func97, Tryz.ntmps97
    go_wp2_with fail
    go_ret
    exact ⟨rfl, 0, rfl⟩
  have q21 : ck = 21 := by omega
  subst q21
  have hres : dirOf (rightT 21 fs) = ownOf fs := by
    rcases hfsb with e | e <;> subst e <;> simp [rightT, dirOf, ownOf]
  rw [hres]
  have hfs0 : 0 ≤ fs := by omega
  have hside : ∀ q (t : Int), t = (mt i : Int) → Calls Tryz.prog 118 #[.slice (some ⟨gm, 0, none⟩) n n, .slice (some ⟨gq, 0, none⟩) n n, .int .i64 ((i : Int) + 1), .int .i64 t] (w.drewN q) fun e w' => e = .returned (.int .i64 fs) ∧ w' = w.drewN q := fun q t ht => by
    rw [← HF.out]
    exact implSide gm 0 n n gq 0 n cs M c mt _ _ (i + 1) (mt i) _ HCS.out HM.out HL.out.am HL.out.aq (by omega) hc hmt hsm hii.out ht (by omega) hmi.2
  have HSD : Hid _ := hside
  clear hside hres hfsb
  rcases hs with ⟨m1, m2⟩ | ⟨m1, m2⟩
  · rw [m2] at k2
    have hm0 : decide ((mt i : Int) < 0) = false := by simp
    clear m2
    go_enter Tryz.func97, Tryz.ntmps97
    go_wp2_with fail
    go_quiet ((first | (go_at_call 118; exact Calls.quiet_of_same (HSD.out _ _ rfl)) | (go_at_call 81; exact Calls.quiet_of_same (implSideOf _ _ hfs0))))
    go_wp2_with fail
    go_ret
    exact ⟨rfl, _, rfl⟩
  · rw [m2] at k2
    have M1 : Hid _ := m1
    clear m2 m1
    go_enter Tryz.func97, Tryz.ntmps97
    go_wp2_with fail
    go_quiet ((first | (go_at_call 118; exact Calls.quiet_of_same (HSD.out _ _ (by rw [M1.out]))) | (go_at_call 81; exact Calls.quiet_of_same (implSideOf _ _ hfs0))))
    go_wp2_with fail
    go_ret
    exact ⟨rfl, _, rfl⟩
end Go.Proofs.YtgojdlbidjnmmabGreat
namespace Go.Proofs.YtgojdlbidjnmmabGreat
open Go.ChangeShapes Go.WideShapes Go.ChangeAt Go.RowKit
set_option linter.unusedSimpArgs false
set_option linter.unusedVariables false

theorem stepI_op {c : Int} (f : Int) (s : TS) (h : c = 19 ∨ c = 20 ∨ c = 21) : stepT c f s = pushT s (rightT c f) 0 true := stepOp f s (by unfold opensB; simp; omega)
theorem stepI_other {c : Int} (f : Int) (s : TS) (h : ¬ (14 ≤ c ∧ c ≤ 22)) : stepT c f s = s := by
  unfold stepT
  rw [if_neg (by unfold opensB; simp; omega), if_neg (by omega), if_neg (by omega), if_neg (by omega), if_neg (by omega), if_neg (by omega), if_neg (by omega)]
theorem cut_ne {base : Int} {k : Nat} {s : TS} (h : GoodS base k s) : hasA s.st = true → ∃ y q, cutA s.st = y :: q := by
  intro ha
  obtain ⟨r, hr⟩ := h.last
  obtain ⟨r', hr'⟩ := cutA_last hr ha
  cases r' with
  | nil => exact ⟨_, _, hr'⟩
  | cons y q => exact ⟨_, _, hr'⟩

set_option maxHeartbeats 16000000 in
theorem implLetter {B T S gl gc n gm gq : Nat} {base : Int} {cs M lv cls : List Int} {top : Option Addr} {s : TS} (c : Nat → Int) (mt : Nat → Nat) (i : Nat) (w : World) (hi : i < n) (hn80 : n ≤ 1000) (hcs : cs.length = n) (hM : M.length = n) (hb0 : 0 ≤ base) (hB : B ≤ w.heap.size)
    (hc : Hid (∀ j, j < n → fn cs j = c j)) (hmt : Hid (MateFn c n mt)) (hsm : Hid (SameMates c n mt M)) (hg : GoodS base i s) (h : TIn w B T S gm gq gl gc n base cs M lv cls top s) :
    Calls Tryz.prog 74 #[.pointer (some ⟨T, 0, none⟩), .pointer (some ⟨S, 0, none⟩), .int .i64 i] w fun e w' => e = .returned (.tuple #[]) ∧ (∃ top', TIn w' B T S gm gq gl gc n base cs M (lvSet (c i) s (lv.set i (-1)) i) (clSet (c i) s cls i) top' (stepT (c i) (sideFrom c mt (mt i) (i + 1)) s)) ∧ Below B w w' := by
  have c1 := h.c1
  have c3 := h.c3
  obtain ⟨ck, hck⟩ : ∃ ck, c i = ck := ⟨_, rfl⟩
  have k1 := h.lin.am i (by omega)
  rw [hc.out i hi, hck, Nat.zero_add] at k1
  have hi0 : (0 : Int) ≤ (i : Int) := by omega
  have hi1 : (i : Int) < (n : Int) := by omega
  obtain ⟨fs, hfs⟩ : ∃ fs, sideFrom c mt (mt i) (i + 1) = fs := ⟨_, rfl⟩
  rw [hck, hfs]
  have HF : Hid _ := hfs
  have HCK : Hid _ := hck
  have kl := h.ol.cellN i hi
  have fl := h.ol.frozenN i
  have hik : i ≤ 1000 := by omega
  have hl0 := hg.lost0
  have hlk := hg.lostk
  have hs0 := hg.skip0
  have hsk := hg.skipk
  have hl1 : s.lost ≤ 1000 := by omega
  have hs1 : s.skip ≤ 1000 := by omega
  have hgt := good_top hg
  have ht0 : 0 ≤ topL s.st := by omega
  have ht1 : topL s.st ≤ 100 := by omega
  have HG : Hid _ := hg
  have HNE : Hid _ := good_ne hg
  have HCUT : Hid _ := cut_ne hg
  -- levels[at] = -1
  have H1 : Hid (TIn (w.setCell ⟨gl, i, none⟩ (.int .i64 (-1))) B T S gm gq gl gc n base cs M (lv.set i (-1)) cls top s) := h.setL i (-1)
  have B1 : Hid (Below B w (w.setCell ⟨gl, i, none⟩ (.int .i64 (-1)))) := h.blwL (Below.refl _ _) i _
  have HBs : B ≤ (w.setCell ⟨gl, i, none⟩ (.int .i64 (-1))).heap.size := by rw [World.size_setCell]; exact hB
  have HN : Hid _ := hcs
  have HM : Hid _ := hM
  clear h hck hfs hcs hM hg hgt hlk hsk
  obtain ⟨w1, hw1⟩ : ∃ w1, w.setCell ⟨gl, i, none⟩ (.int .i64 (-1)) = w1 := ⟨_, rfl⟩
  have HW1 : Hid _ := hw1
  rw [hw1] at H1 B1 HBs
  clear hw1
  have hpush : ∀ (w2 : World) (lv2 cls2 : List Int) (right : Bool) (side : Int) (alone : Bool) (d l0 : Int), d = dirOf right → Below B w w2 → B ≤ w2.heap.size → TIn w2 B T S gm gq gl gc n base cs M lv2 cls2 top s →
      Calls Tryz.prog 94 #[.pointer (some ⟨S, 0, none⟩), .agg #[.int .i64 l0, .int .i64 side, .bool alone, .pointer none], .int .i64 d] w2 fun e w' => e = .returned (.tuple #[]) ∧ (∃ top', TIn w' B T S gm gq gl gc n base cs M lv2 cls2 top' (pushT s right side alone)) ∧ Below B w w' := by
    intro w2 lv2 cls2 right side alone d l0 hd b2 hb2 h2
    refine (implPush w2 h2.st HNE.out ht0 ht1 hl0 hl1 hs0 hs1 right side alone l0 d hd).mono ?_
    rintro e w3 ⟨rfl, ⟨top', h3⟩, g3⟩
    exact ⟨rfl, ⟨top', h2.stack g3 h3⟩, h2.blwS b2 hb2 g3⟩
  have HP : Hid _ := hpush
  clear hpush
  by_cases q10 : ck = 10
  · subst q10
    rw [show stepT 10 fs s = s from rfl, show lvSet 10 s (lv.set i (-1)) i = lv.set i (-1) from rfl, show clSet 10 s cls i = cls from rfl]
    go_enter Tryz.func74, Tryz.ntmps74
    go_wp2_with fail
    refine bodyPost_ret (results_none rfl _ _ _) rfl ?_
    rw [HW1.out]
    exact ⟨rfl, ⟨_, H1.out⟩, B1.out⟩
  by_cases q14 : ck = 14
  · subst q14
    rw [show stepT 14 fs s = pushT s false 0 false from rfl, show lvSet 14 s (lv.set i (-1)) i = lv.set i (-1) from rfl, show clSet 14 s cls i = cls from rfl]
    go_enter Tryz.func74, Tryz.ntmps74
    go_wp2_with fail
    rw [HW1.out]
    refine (HP.out _ _ _ false _ _ _ _ rfl B1.out HBs H1.out).mono ?_
    rintro e w2 ⟨rfl, h2, b2⟩
    go_wp2_with fail
    refine bodyPost_ret (results_none rfl _ _ _) rfl ?_
    exact ⟨rfl, h2, b2⟩
  by_cases q15 : ck = 15
  · subst q15
    rw [show stepT 15 fs s = pushT s true 0 false from rfl, show lvSet 15 s (lv.set i (-1)) i = lv.set i (-1) from rfl, show clSet 15 s cls i = cls from rfl]
    go_enter Tryz.func74, Tryz.ntmps74
    go_wp2_with fail
    rw [HW1.out]
    refine (HP.out _ _ _ true _ _ _ _ rfl B1.out HBs H1.out).mono ?_
    rintro e w2 ⟨rfl, h2, b2⟩
    go_wp2_with fail
    refine bodyPost_ret (results_none rfl _ _ _) rfl ?_
    exact ⟨rfl, h2, b2⟩
  by_cases q17 : ck = 17
  · subst q17
    rw [show stepT 17 fs s = pushT s false 1 false from rfl, show lvSet 17 s (lv.set i (-1)) i = lv.set i (-1) from rfl, show clSet 17 s cls i = cls from rfl]
    go_enter Tryz.func74, Tryz.ntmps74
    go_wp2_with fail
    rw [HW1.out]
    refine (HP.out _ _ _ false _ _ _ _ rfl B1.out HBs H1.out).mono ?_
    rintro e w2 ⟨rfl, h2, b2⟩
    go_wp2_with fail
    refine bodyPost_ret (results_none rfl _ _ _) rfl ?_
    exact ⟨rfl, h2, b2⟩
  by_cases q18 : ck = 18
  · subst q18
    rw [show stepT 18 fs s = pushT s true 2 false from rfl, show lvSet 18 s (lv.set i (-1)) i = lv.set i (-1) from rfl, show clSet 18 s cls i = cls from rfl]
    go_enter Tryz.func74, Tryz.ntmps74
    go_wp2_with fail
    rw [HW1.out]
    refine (HP.out _ _ _ true _ _ _ _ rfl B1.out HBs H1.out).mono ?_
    rintro e w2 ⟨rfl, h2, b2⟩
    go_wp2_with fail
    refine bodyPost_ret (results_none rfl _ _ _) rfl ?_
    exact ⟨rfl, h2, b2⟩
  by_cases q16 : ck = 16
  · subst q16
    rw [show stepT 16 fs s = dropT s from rfl, show lvSet 16 s (lv.set i (-1)) i = lv.set i (-1) from rfl, show clSet 16 s cls i = cls from rfl]
    go_enter Tryz.func74, Tryz.ntmps74
    go_wp2_with fail
    rw [HW1.out]
    refine (implEmb _ H1.out.st HNE.out hl0 hs0 hs1).mono ?_
    rintro e w2 ⟨rfl, ⟨top2, h2⟩, g2⟩
    go_wp2_with fail
    refine bodyPost_ret (results_none rfl _ _ _) rfl ?_
    exact ⟨rfl, ⟨top2, H1.out.stack g2 h2⟩, H1.out.blwS B1.out HBs g2⟩
  -- what stands on top, in a world and a state
  have htop : ∀ (w2 : World) (lv2 cls2 : List Int) (top2 : Option Addr) (s2 : TS), GoodS base i s2 → Below B w w2 → B ≤ w2.heap.size → TIn w2 B T S gm gq gl gc n base cs M lv2 cls2 top2 s2 →
      ∃ b, top2 = some ⟨b, 0, none⟩ ∧ (¬ gl = b ∧ ¬ gc = b) ∧ w2.cell? ⟨b, 0, none⟩ = some (.int .i64 (topL s2.st)) ∧ w2.cell? ⟨b, 1, none⟩ = some (.int .i64 (topS s2.st)) := by
    intro w2 lv2 cls2 top2 s2 g2 b2 hb2 h2
    obtain ⟨x, r, hx⟩ := good_ne g2
    have hlk := h2.st.lk
    rw [hx] at hlk ⊢
    obtain ⟨b, nx, e, hb1, _, n0, n1, _⟩ := hlk
    simp only [Value.pointer.injEq] at e
    exact ⟨b, e, ⟨fun e2 => hb1 (.inr (.inr (.inl e2.symm))), fun e2 => hb1 (.inr (.inr (.inr e2.symm)))⟩, n0, n1⟩
  have HTOP : Hid _ := htop
  clear htop
  by_cases q22 : ck = 22
  · subst q22
    rw [show stepT 22 fs s = endT s from rfl, show lvSet 22 s (lv.set i (-1)) i = (lv.set i (-1)).set i (topL (endT s).st) from rfl, show clSet 22 s cls i = cls.set i (sdT (endT s).st 22) from rfl, List.set_set]
    have HOB : Hid (opensB 22 = false) := by show _ = _; decide
    obtain ⟨s2, hs2⟩ : ∃ s2, endT s = s2 := ⟨_, rfl⟩
    have HG2 : Hid (GoodS base i s2) := by rw [← hs2]; exact good_end HG.out
    rw [hs2]
    have HS2 : Hid _ := hs2
    clear hs2
    go_enter Tryz.func74, Tryz.ntmps74
    go_wp2_with fail
    rw [HW1.out]
    refine (implAlone _ H1.out.st HCUT.out hl0 hl1).mono ?_
    rintro e w2 ⟨rfl, ⟨top2, h2⟩, g2⟩
    have H2 := H1.out.stack g2 h2
    have B2 := H1.out.blwS B1.out HBs g2
    rw [HS2.out] at H2
    have HH2 : Hid (TIn w2 B T S gm gq gl gc n base cs M (lv.set i (-1)) cls top2 s2) := H2
    have HB2 : Hid (Below B w w2) := B2
    have HBs2 : B ≤ w2.heap.size := Nat.le_trans hB B2.size
    clear H2 B2 h2 g2
    obtain ⟨b, rfl, ⟨nb1, nb2⟩, t0, t1⟩ := HTOP.out _ _ _ _ _ HG2.out HB2.out HBs2 HH2.out
    obtain ⟨tl, htl⟩ : ∃ tl, topL s2.st = tl := ⟨_, rfl⟩
    obtain ⟨ts, hts⟩ : ∃ ts, topS s2.st = ts := ⟨_, rfl⟩
    obtain ⟨sd, hsdd⟩ : ∃ sd, sdT s2.st 22 = sd := ⟨_, rfl⟩
    have hsd : sd = if ts ≠ 0 then ts else 22 := by rw [← hsdd]; unfold sdT; rw [hts]
    have HTL : Hid _ := htl
    have HSDD : Hid _ := hsdd
    rw [htl] at t0
    rw [hts] at t1
    have c3 := HH2.out.c3
    have c4 := HH2.out.c4
    have s0 := HH2.out.st.c0
    have kl := HH2.out.ol.cellN i hi
    have fl := HH2.out.ol.frozenN i
    have kc := HH2.out.oc.cellN i hi
    have fc := HH2.out.oc.frozenN i
    have n1 : ¬ gl = gc := HH2.out.nlc
    have n2 : ¬ gl = T := HH2.out.nTl
    have n3 : ¬ gc = T := HH2.out.nTc
    have n4 : ¬ gl = S := HH2.out.nSl
    have n5 : ¬ gc = S := HH2.out.nSc
    have FA : Hid (∀ q, TIn (((w2.setCell ⟨gl, i, none⟩ (.int .i64 tl)).setCell ⟨gc, i, none⟩ (.int .i64 22)).drewN q) B T S gm gq gl gc n base cs M (lv.set i tl) (cls.set i 22) (some ⟨b, 0, none⟩) s2 ∧ Below B w (((w2.setCell ⟨gl, i, none⟩ (.int .i64 tl)).setCell ⟨gc, i, none⟩ (.int .i64 22)).drewN q)) := by
      have a := (HH2.out.setL i tl).setC i 22
      rw [List.set_set] at a
      exact fun q => ⟨a.below (below_draws _ q), (((HH2.out.setL i tl).blwC (HH2.out.blwL HB2.out i _) i _).trans ((below_draws _ q).mono (by simp only [World.size_setCell]; first | exact HBs2 | exact HBs)))⟩
    have FB : Hid (∀ q, TIn ((((w2.setCell ⟨gl, i, none⟩ (.int .i64 tl)).setCell ⟨gc, i, none⟩ (.int .i64 22)).setCell ⟨gc, i, none⟩ (.int .i64 ts)).drewN q) B T S gm gq gl gc n base cs M (lv.set i tl) (cls.set i ts) (some ⟨b, 0, none⟩) s2 ∧ Below B w ((((w2.setCell ⟨gl, i, none⟩ (.int .i64 tl)).setCell ⟨gc, i, none⟩ (.int .i64 22)).setCell ⟨gc, i, none⟩ (.int .i64 ts)).drewN q)) := by
      have a := ((HH2.out.setL i tl).setC i 22).setC i ts
      rw [List.set_set, List.set_set] at a
      exact fun q => ⟨a.below (below_draws _ q), ((((HH2.out.setL i tl).setC i 22).blwC ((HH2.out.setL i tl).blwC (HH2.out.blwL HB2.out i _) i _) i _).trans ((below_draws _ q).mono (by simp only [World.size_setCell]; first | exact HBs2 | exact HBs)))⟩
    have HSD : Hid _ := hsd
    clear hsd htl hts hsdd
    by_cases hz : ts = 0
    · have hz1 : (ts != 0) = false := by simpa using hz
      have HE : Hid (sd = 22) := by show _ = _; rw [HSD.out]; exact if_neg (by rw [hz]; simp)
      clear hz
      go_wp2_with fail
      go_region_held3 (fun w' => w'.cell? ⟨T, 3, none⟩ = some (.slice (some ⟨gl, 0, none⟩) n n) ∧ w'.cell? ⟨T, 4, none⟩ = some (.slice (some ⟨gc, 0, none⟩) n n) ∧ w'.cell? ⟨S, 0, none⟩ = some (.pointer (some ⟨b, 0, none⟩)) ∧ w'.cell? ⟨b, 0, none⟩ = some (.int .i64 tl)) (go_keep) (fail)
      go_wp2_with fail
      refine (implOpens _ _).mono ?_
      rintro e w5 ⟨rfl, rfl⟩
      rw [HOB.out]
      go_wp2_with fail
      go_end0
      rw [HTL.out, HSDD.out, HE.out]
      exact ⟨rfl, ⟨_, (FA.out 1).1⟩, (FA.out 1).2⟩
    · have hz1 : (ts != 0) = true := by simpa using hz
      have HE : Hid (sd = ts) := by show _ = _; rw [HSD.out]; exact if_pos (by exact hz)
      clear hz
      go_wp2_with fail
      go_region_held3 (fun w' => w'.cell? ⟨T, 3, none⟩ = some (.slice (some ⟨gl, 0, none⟩) n n) ∧ w'.cell? ⟨T, 4, none⟩ = some (.slice (some ⟨gc, 0, none⟩) n n) ∧ w'.cell? ⟨S, 0, none⟩ = some (.pointer (some ⟨b, 0, none⟩)) ∧ w'.cell? ⟨b, 0, none⟩ = some (.int .i64 tl)) (go_keep) (fail)
      go_wp2_with fail
      go_region_held3 (fun w' => w'.cell? ⟨T, 4, none⟩ = some (.slice (some ⟨gc, 0, none⟩) n n) ∧ w'.cell? ⟨S, 0, none⟩ = some (.pointer (some ⟨b, 0, none⟩)) ∧ w'.cell? ⟨b, 1, none⟩ = some (.int .i64 ts)) (go_keep) (fail)
      go_wp2_with fail
      refine (implOpens _ _).mono ?_
      rintro e w5 ⟨rfl, rfl⟩
      rw [HOB.out]
      go_wp2_with fail
      go_end0
      rw [HTL.out, HSDD.out, HE.out]
      exact ⟨rfl, ⟨_, (FB.out 2).1⟩, (FB.out 2).2⟩
  by_cases qop : ck = 19 ∨ ck = 20 ∨ ck = 21
  · have hel : lvSet ck s (lv.set i (-1)) i = lv.set i (topL s.st) := by unfold lvSet atT; rw [if_neg (by unfold tellsB; simp; omega), if_neg q22, List.set_set]
    have hec : clSet ck s cls i = cls.set i (sdT s.st ck) := by unfold clSet atT; rw [if_neg (by unfold tellsB; simp; omega), if_neg q22]
    have HOB : Hid (opensB ck = true) := by show _ = _; unfold opensB; simp; omega
    rw [stepI_op fs s qop, hel, hec]
    have p14 : (ck == 14) = false := by simpa using q14
    have p15 : (ck == 15) = false := by simpa using q15
    have p16 : (ck == 16) = false := by simpa using q16
    have p17 : (ck == 17) = false := by simpa using q17
    have p18 : (ck == 18) = false := by simpa using q18
    have p10 : (ck == 10) = false := by simpa using q10
    have p22 : (ck == 22) = false := by simpa using q22
    clear q10 q14 q15 q16 q17 q18 q22 qop hel hec
    obtain ⟨b, rfl, ⟨nb1, nb2⟩, t0, t1⟩ := HTOP.out _ _ _ _ _ HG.out B1.out HBs H1.out
    obtain ⟨tl, htl⟩ : ∃ tl, topL s.st = tl := ⟨_, rfl⟩
    obtain ⟨ts, hts⟩ : ∃ ts, topS s.st = ts := ⟨_, rfl⟩
    obtain ⟨sd, hsdd⟩ : ∃ sd, sdT s.st ck = sd := ⟨_, rfl⟩
    have hsd : sd = if ts ≠ 0 then ts else ck := by rw [← hsdd]; unfold sdT; rw [hts]
    have HTL : Hid _ := htl
    have HSDD : Hid _ := hsdd
    rw [htl] at t0
    rw [hts] at t1
    have c3 := H1.out.c3
    have c4 := H1.out.c4
    have s0 := H1.out.st.c0
    have kl := H1.out.ol.cellN i hi
    have fl := H1.out.ol.frozenN i
    have kc := H1.out.oc.cellN i hi
    have fc := H1.out.oc.frozenN i
    have n1 : ¬ gl = gc := H1.out.nlc
    have n2 : ¬ gl = T := H1.out.nTl
    have n3 : ¬ gc = T := H1.out.nTc
    have n4 : ¬ gl = S := H1.out.nSl
    have n5 : ¬ gc = S := H1.out.nSc
    have FA : Hid (∀ q, TIn (((w1.setCell ⟨gl, i, none⟩ (.int .i64 tl)).setCell ⟨gc, i, none⟩ (.int .i64 ck)).drewN q) B T S gm gq gl gc n base cs M (lv.set i tl) (cls.set i ck) (some ⟨b, 0, none⟩) s ∧ Below B w (((w1.setCell ⟨gl, i, none⟩ (.int .i64 tl)).setCell ⟨gc, i, none⟩ (.int .i64 ck)).drewN q)) := by
      have a := (H1.out.setL i tl).setC i ck
      rw [List.set_set] at a
      exact fun q => ⟨a.below (below_draws _ q), (((H1.out.setL i tl).blwC (H1.out.blwL B1.out i _) i _).trans ((below_draws _ q).mono (by simp only [World.size_setCell]; first | exact HBs2 | exact HBs)))⟩
    have FB : Hid (∀ q, TIn ((((w1.setCell ⟨gl, i, none⟩ (.int .i64 tl)).setCell ⟨gc, i, none⟩ (.int .i64 ck)).setCell ⟨gc, i, none⟩ (.int .i64 ts)).drewN q) B T S gm gq gl gc n base cs M (lv.set i tl) (cls.set i ts) (some ⟨b, 0, none⟩) s ∧ Below B w ((((w1.setCell ⟨gl, i, none⟩ (.int .i64 tl)).setCell ⟨gc, i, none⟩ (.int .i64 ck)).setCell ⟨gc, i, none⟩ (.int .i64 ts)).drewN q)) := by
      have a := ((H1.out.setL i tl).setC i ck).setC i ts
      rw [List.set_set, List.set_set] at a
      exact fun q => ⟨a.below (below_draws _ q), ((((H1.out.setL i tl).setC i ck).blwC ((H1.out.setL i tl).blwC (H1.out.blwL B1.out i _) i _) i _).trans ((below_draws _ q).mono (by simp only [World.size_setCell]; first | exact HBs2 | exact HBs)))⟩
    have HSD : Hid _ := hsd
    clear hsd htl hts hsdd ht0 ht1
    by_cases hz : ts = 0
    · have hz1 : (ts != 0) = false := by simpa using hz
      have HE : Hid (sd = ck) := by show _ = _; rw [HSD.out]; exact if_neg (by rw [hz]; simp)
      clear hz
      go_enter Tryz.func74, Tryz.ntmps74
      go_wp2_with fail
      rw [HW1.out]
      go_region_held3 (fun w' => w'.cell? ⟨T, 3, none⟩ = some (.slice (some ⟨gl, 0, none⟩) n n) ∧ w'.cell? ⟨T, 4, none⟩ = some (.slice (some ⟨gc, 0, none⟩) n n) ∧ w'.cell? ⟨S, 0, none⟩ = some (.pointer (some ⟨b, 0, none⟩)) ∧ w'.cell? ⟨b, 0, none⟩ = some (.int .i64 tl)) (go_keep) (fail)
      go_wp2_with fail
      refine (implOpens _ _).mono ?_
      rintro e w5 ⟨rfl, rfl⟩
      rw [HOB.out]
      go_wp2_with fail
      refine (implOpened c mt i _ hi hn80 HN.out HM.out (by rw [HCK.out]; exact HOB.out) hc hmt hsm (FA.out 1).1).mono ?_
      rintro e w6 ⟨rfl, m6, rfl⟩
      rw [HCK.out, HF.out]
      go_wp2_with fail
      refine (HP.out _ _ _ _ _ _ _ _ rfl (FA.out _).2 (Nat.le_trans hB (FA.out _).2.size) (FA.out _).1).mono ?_
      rintro e w7 ⟨rfl, h7, b7⟩
      go_wp2_with fail
      go_end0
      rw [HTL.out, HSDD.out, HE.out]
      exact ⟨rfl, h7, b7⟩
    · have hz1 : (ts != 0) = true := by simpa using hz
      have HE : Hid (sd = ts) := by show _ = _; rw [HSD.out]; exact if_pos (by exact hz)
      clear hz
      go_enter Tryz.func74, Tryz.ntmps74
      go_wp2_with fail
      rw [HW1.out]
      go_region_held3 (fun w' => w'.cell? ⟨T, 3, none⟩ = some (.slice (some ⟨gl, 0, none⟩) n n) ∧ w'.cell? ⟨T, 4, none⟩ = some (.slice (some ⟨gc, 0, none⟩) n n) ∧ w'.cell? ⟨S, 0, none⟩ = some (.pointer (some ⟨b, 0, none⟩)) ∧ w'.cell? ⟨b, 0, none⟩ = some (.int .i64 tl)) (go_keep) (fail)
      go_wp2_with fail
      go_region_held3 (fun w' => w'.cell? ⟨T, 4, none⟩ = some (.slice (some ⟨gc, 0, none⟩) n n) ∧ w'.cell? ⟨S, 0, none⟩ = some (.pointer (some ⟨b, 0, none⟩)) ∧ w'.cell? ⟨b, 1, none⟩ = some (.int .i64 ts)) (go_keep) (fail)
      go_wp2_with fail
      refine (implOpens _ _).mono ?_
      rintro e w5 ⟨rfl, rfl⟩
      rw [HOB.out]
      go_wp2_with fail
      refine (implOpened c mt i _ hi hn80 HN.out HM.out (by rw [HCK.out]; exact HOB.out) hc hmt hsm (FB.out 2).1).mono ?_
      rintro e w6 ⟨rfl, m6, rfl⟩
      rw [HCK.out, HF.out]
      go_wp2_with fail
      refine (HP.out _ _ _ _ _ _ _ _ rfl (FB.out _).2 (Nat.le_trans hB (FB.out _).2.size) (FB.out _).1).mono ?_
      rintro e w7 ⟨rfl, h7, b7⟩
      go_wp2_with fail
      go_end0
      rw [HTL.out, HSDD.out, HE.out]
      exact ⟨rfl, h7, b7⟩
  have hno : ¬ (14 ≤ ck ∧ ck ≤ 22) := by omega
  have hel : lvSet ck s (lv.set i (-1)) i = lv.set i (topL s.st) := by unfold lvSet atT; rw [if_neg (by unfold tellsB; simp; omega), if_neg q22, List.set_set]
  have hec : clSet ck s cls i = cls.set i (sdT s.st ck) := by unfold clSet atT; rw [if_neg (by unfold tellsB; simp; omega), if_neg q22]
  have HOB : Hid (opensB ck = false) := by show _ = _; unfold opensB; simp; omega
  rw [stepI_other fs s hno, hel, hec]
  have p14 : (ck == 14) = false := by simpa using q14
  have p15 : (ck == 15) = false := by simpa using q15
  have p16 : (ck == 16) = false := by simpa using q16
  have p17 : (ck == 17) = false := by simpa using q17
  have p18 : (ck == 18) = false := by simpa using q18
  have p10 : (ck == 10) = false := by simpa using q10
  have p22 : (ck == 22) = false := by simpa using q22
  clear q10 q14 q15 q16 q17 q18 q22 qop hno hel hec
  obtain ⟨b, rfl, ⟨nb1, nb2⟩, t0, t1⟩ := HTOP.out _ _ _ _ _ HG.out B1.out HBs H1.out
  obtain ⟨tl, htl⟩ : ∃ tl, topL s.st = tl := ⟨_, rfl⟩
  obtain ⟨ts, hts⟩ : ∃ ts, topS s.st = ts := ⟨_, rfl⟩
  obtain ⟨sd, hsdd⟩ : ∃ sd, sdT s.st ck = sd := ⟨_, rfl⟩
  have hsd : sd = if ts ≠ 0 then ts else ck := by rw [← hsdd]; unfold sdT; rw [hts]
  have HTL : Hid _ := htl
  have HSDD : Hid _ := hsdd
  rw [htl] at t0
  rw [hts] at t1
  have c3 := H1.out.c3
  have c4 := H1.out.c4
  have s0 := H1.out.st.c0
  have kl := H1.out.ol.cellN i hi
  have fl := H1.out.ol.frozenN i
  have kc := H1.out.oc.cellN i hi
  have fc := H1.out.oc.frozenN i
  have n1 : ¬ gl = gc := H1.out.nlc
  have n2 : ¬ gl = T := H1.out.nTl
  have n3 : ¬ gc = T := H1.out.nTc
  have n4 : ¬ gl = S := H1.out.nSl
  have n5 : ¬ gc = S := H1.out.nSc
  have FA : Hid (∀ q, TIn (((w1.setCell ⟨gl, i, none⟩ (.int .i64 tl)).setCell ⟨gc, i, none⟩ (.int .i64 ck)).drewN q) B T S gm gq gl gc n base cs M (lv.set i tl) (cls.set i ck) (some ⟨b, 0, none⟩) s ∧ Below B w (((w1.setCell ⟨gl, i, none⟩ (.int .i64 tl)).setCell ⟨gc, i, none⟩ (.int .i64 ck)).drewN q)) := by
    have a := (H1.out.setL i tl).setC i ck
    rw [List.set_set] at a
    exact fun q => ⟨a.below (below_draws _ q), (((H1.out.setL i tl).blwC (H1.out.blwL B1.out i _) i _).trans ((below_draws _ q).mono (by simp only [World.size_setCell]; first | exact HBs2 | exact HBs)))⟩
  have FB : Hid (∀ q, TIn ((((w1.setCell ⟨gl, i, none⟩ (.int .i64 tl)).setCell ⟨gc, i, none⟩ (.int .i64 ck)).setCell ⟨gc, i, none⟩ (.int .i64 ts)).drewN q) B T S gm gq gl gc n base cs M (lv.set i tl) (cls.set i ts) (some ⟨b, 0, none⟩) s ∧ Below B w ((((w1.setCell ⟨gl, i, none⟩ (.int .i64 tl)).setCell ⟨gc, i, none⟩ (.int .i64 ck)).setCell ⟨gc, i, none⟩ (.int .i64 ts)).drewN q)) := by
    have a := ((H1.out.setL i tl).setC i ck).setC i ts
    rw [List.set_set, List.set_set] at a
    exact fun q => ⟨a.below (below_draws _ q), ((((H1.out.setL i tl).setC i ck).blwC ((H1.out.setL i tl).blwC (H1.out.blwL B1.out i _) i _) i _).trans ((below_draws _ q).mono (by simp only [World.size_setCell]; first | exact HBs2 | exact HBs)))⟩
  have HSD : Hid _ := hsd
  clear hsd htl hts hsdd ht0 ht1
  by_cases hz : ts = 0
  · have hz1 : (ts != 0) = false := by simpa using hz
    have HE : Hid (sd = ck) := by show _ = _; rw [HSD.out]; exact if_neg (by rw [hz]; simp)
    clear hz
    go_enter Tryz.func74, Tryz.ntmps74
    go_wp2_with fail
    rw [HW1.out]
    go_region_held3 (fun w' => w'.cell? ⟨T, 3, none⟩ = some (.slice (some ⟨gl, 0, none⟩) n n) ∧ w'.cell? ⟨T, 4, none⟩ = some (.slice (some ⟨gc, 0, none⟩) n n) ∧ w'.cell? ⟨S, 0, none⟩ = some (.pointer (some ⟨b, 0, none⟩)) ∧ w'.cell? ⟨b, 0, none⟩ = some (.int .i64 tl)) (go_keep) (fail)
    go_wp2_with fail
    refine (implOpens _ _).mono ?_
    rintro e w5 ⟨rfl, rfl⟩
    rw [HOB.out]
    go_wp2_with fail
    go_end0
    rw [HTL.out, HSDD.out, HE.out]
    exact ⟨rfl, ⟨_, (FA.out 1).1⟩, (FA.out 1).2⟩
  · have hz1 : (ts != 0) = true := by simpa using hz
    have HE : Hid (sd = ts) := by show _ = _; rw [HSD.out]; exact if_pos (by exact hz)
    clear hz
    go_enter Tryz.func74, Tryz.ntmps74
    go_wp2_with fail
    rw [HW1.out]
    go_region_held3 (fun w' => w'.cell? ⟨T, 3, none⟩ = some (.slice (some ⟨gl, 0, none⟩) n n) ∧ w'.cell? ⟨T, 4, none⟩ = some (.slice (some ⟨gc, 0, none⟩) n n) ∧ w'.cell? ⟨S, 0, none⟩ = some (.pointer (some ⟨b, 0, none⟩)) ∧ w'.cell? ⟨b, 0, none⟩ = some (.int .i64 tl)) (go_keep) (fail)
    go_wp2_with fail
    go_region_held3 (fun w' => w'.cell? ⟨T, 4, none⟩ = some (.slice (some ⟨gc, 0, none⟩) n n) ∧ w'.cell? ⟨S, 0, none⟩ = some (.pointer (some ⟨b, 0, none⟩)) ∧ w'.cell? ⟨b, 1, none⟩ = some (.int .i64 ts)) (go_keep) (fail)
    go_wp2_with fail
    refine (implOpens _ _).mono ?_
    rintro e w5 ⟨rfl, rfl⟩
    rw [HOB.out]
    go_wp2_with fail
    go_end0
    rw [HTL.out, HSDD.out, HE.out]
    exact ⟨rfl, ⟨_, (FB.out 2).1⟩, (FB.out 2).2⟩
end Go.Proofs.YtgojdlbidjnmmabGreat
