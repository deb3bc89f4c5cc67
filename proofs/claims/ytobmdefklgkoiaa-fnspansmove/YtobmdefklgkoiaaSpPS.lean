import Derived.Test.YtobmdefklgkoiaaSpSp
import Derived.Test.YtobmdefklgkoiaaLoAll
import Derived.Test.YtobmdefklgkoiaaSpanOk4
import Derived.Test.YtobmdefklgkoiaaSpPM
namespace Go.Proofs.Ytobmdefklgkoiaa
open Go.ChangeShapes Go.WideShapes Go.ChangeAt Go.RowKit
set_option linter.unusedSimpArgs false
set_option linter.unusedVariables false

theorem emp_own (w : World) : OwnS (w.alloc (.cells #[] 32)) w.heap.size (.slice (some ⟨w.heap.size, 0, none⟩) 0 0) 0 [] := own_emptyT w _ _ (Nat.le_refl _) rfl
theorem rle_looksN {z : Nat → Int} {n C : Nat} (h : spansOk z n (C : Int) = true) : rleR (looksS z n C) = looksR z n (C : Int) := by
  have := rle_looks h
  simpa using this

set_option maxHeartbeats 1000000 in
theorem specPlainS (v : Value) (n : Nat) (l : List Int) (c : Int) (w : World) (hv : ArgS w v n l) (hbig : n ≤ 1048576) :
    Calls Try.prog 12 #[v, .int .i64 c] w fun e w' => (∃ v', e = .returned v' ∧ OwnS w' w.heap.size v' (spQ 0 (plainS (fn l) n c)).length (spR 0 (plainS (fn l) n c))) ∧ Below w.heap.size w w' := by
  by_cases hok : spansOk (fn l) n c = true
  · have HO : Hid _ := hok
    have HV : Hid (∀ w', Below w.heap.size w w' → ArgS w' v n l) := fun w' b => hv.below b
    have hc80 := (spansOk_out hok).1
    have hen := endsOk_of hok
    obtain ⟨C, rfl⟩ : ∃ C : Nat, c = (C : Int) := ⟨c.toNat, by omega⟩
    have HC : Hid (C ≤ 80 ∧ n ≤ 12) := ⟨by omega, by omega⟩
    have HEN : Hid (endsOk (fn l) n) := hen
    clear hok hv hc80 hen
    go_enter Try.func12, Try.ntmps12
    go_wp2_with fail
    refine (specSpansOk v n l (C : Int) w (HV.out _ (Below.refl _ _)) hbig).mono ?_
    rintro e w1 ⟨rfl, b1⟩
    rw [HO.out]
    go_wp2_with fail
    refine (specLooks v n l C w1 (HV.out _ b1) HC.out.2 HC.out.1 HEN).mono ?_
    rintro e w2 ⟨v2, rfl, o2, b2, g2, c2, rfl⟩
    have B2 := bstep b1 b2
    go_wp2_with fail
    refine (specSpans _ (looksS (fn l) n C) w1.heap.size w2 (by rw [looksS_len]; exact o2) (by rw [looksS_len]; have := HC.out; omega)).mono ?_
    rintro e w3 ⟨v3, rfl, o3, b3⟩
    rw [rle_looksN HO.out] at o3
    go_wp2_with fail
    go_ret
    refine ⟨⟨_, rfl, ?_⟩, bstep B2 b3⟩
    unfold plainS
    rw [if_pos HO.out]
    exact o3.mono B2.size
  · have hno : spansOk (fn l) n c = false := by simpa using hok
    have HO : Hid _ := hno
    clear hok hno
    go_enter Try.func12, Try.ntmps12
    go_wp2_with fail
    refine (specSpansOk v n l c w hv hbig).mono ?_
    rintro e w1 ⟨rfl, b1⟩
    rw [HO.out]
    go_wp2_with fail
    go_ret
    refine ⟨⟨_, rfl, ?_⟩, bstep b1 (below_new _ _)⟩
    unfold plainS
    rw [HO.out, if_neg (by simp)]
    exact (emp_own w1).mono b1.size
theorem plain_len (z : Nat → Int) (n : Nat) (c : Int) : (spQ 0 (plainS z n c)).length ≤ 1048576 := by
  unfold plainS
  split
  · rename_i h
    have h1 := spQ_short 0 (looksR z n c)
    have h2 := norm_short (norm_looks z n c)
    have h3 : cntR (looksR z n c) = c.toNat := by rw [← cnt_len, expand_looks h, looksS_len]
    have := (spansOk_out h).1
    omega
  · simp [spQ]
end Go.Proofs.Ytobmdefklgkoiaa
