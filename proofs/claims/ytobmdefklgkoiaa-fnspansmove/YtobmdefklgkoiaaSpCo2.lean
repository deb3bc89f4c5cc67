import Derived.Test.YtobmdefklgkoiaaSpIt
import Derived.Test.YtobmdefklgkoiaaSpPM
import Derived.Test.YtobmdefklgkoiaaLkI3
import Derived.Test.YtobmdefklgkoiaaLkI4
import Derived.Test.YtobmdefklgkoiaaSpanOk2
import Derived.Test.YtobmdefklgkoiaaSpanOk4
namespace Go.Proofs.Ytobmdefklgkoiaa
open Go.ChangeShapes Go.WideShapes Go.ChangeAt Go.RowKit Go.Shelf
set_option linter.unusedSimpArgs false
set_option linter.unusedVariables false

set_option maxRecDepth 100000 in
theorem spans1_nil (n : Nat) (l Bn cap : Nat) (a : Option Addr) (J : List QT → World → Prop) (W : World) (hBn : W.cell? ⟨Bn, 0, none⟩ = some (.slice a 0 cap)) (h0 : J [] W) :
    CallsIn Fence.wide n Try.prog 50 #[.func (.yield l) #[] #[], .pointer (some ⟨Bn, 0, none⟩)] W fun e W' => (∃ v, e = .returned v) ∧ J [] W' := by
  refine callsIn_wide.2 ?_
  have H0 : Hid _ := h0
  clear h0
  go_enter Try.func50, Try.ntmps50
  go_wp2_with fail
  go_loopw [3, 9] (fun p i wr => p = .int .i64 0 ∧ i = .int .i64 0 ∧ wr = W) (fun _ _ _ => 0)
  case atStart => exact ⟨rfl, rfl, rfl⟩
  obtain ⟨rfl, rfl, hw⟩ := hrel
  rw [hw]
  clear hw
  go_wp2_with fail
  go_end0
  exact ⟨⟨_, rfl⟩, H0.out⟩
/-- The iterator hands over the spans of the runs, one by one. -/
theorem spans_stops (n : Nat) (hn : 1 ≤ n) (Bn : Nat) (v : Value) (R : Runs) (hR : R.length ≤ 1000 ∧ cntR R ≤ 1000000) (w : World) (hBl : Bn < w.heap.size) (hB : w.cell? ⟨Bn, 0, none⟩ = some v) (hv : ArgK w v R) :
    SeqStopsK Fence.wide n Try.prog 50 #[.pointer (some ⟨Bn, 0, none⟩)] encQ (Below w.heap.size) (fun ys => ys = spQ 0 R) (fun pre => pre <+: spQ 0 R) R.length w := by
  intro l J Jx W hW hJ _ hY h0
  have hBW := (hW.cell (p := ⟨Bn, 0, none⟩) hBl).trans hB
  rcases hv with ⟨a, cap, rfl, rfl⟩ | ⟨g, cap, rfl, hg, _, _, hat⟩
  · exact (spans1_nil n l Bn cap a J W hBW h0).mono fun e W' h => ⟨h.1, .inl ⟨[], rfl, h.2⟩⟩
  · exact spans1_in n hn l Bn w.heap.size g cap R hR J Jx hY W hW.size hJ hBW hg (fun j hj => (hW.cell (p := ⟨g, j, none⟩) hg).trans (hat j hj)) h0
theorem collect_is (Bn : Nat) (v : Value) (R : Runs) (hR : R.length ≤ 1000 ∧ cntR R ≤ 1000000) (w : World) (hBl : Bn < w.heap.size) (hB : w.cell? ⟨Bn, 0, none⟩ = some v) (hv : ArgK w v R) :
    Calls Try.prog 32 #[.func (.func 50) #[] #[.pointer (some ⟨Bn, 0, none⟩)]] w fun e w' => ∃ v', e = .returned v' ∧ OwnS w' w.heap.size v' (spQ 0 R).length (spR 0 R) ∧ Below w.heap.size w w' := by
  have hc := callsIn_wide.1 (appendSeqS_in Fence.wide 2 trivial rfl (Nat.le_refl _) 50 #[.pointer (some ⟨Bn, 0, none⟩)] trivial (enters_of Try.func50 (by kernel_rfl) rfl) (spQ 0 R) R.length (by omega) w (spans_stops 1 (Nat.le_refl _) Bn v R hR w hBl hB hv))
  have HC : Hid _ := hc
  clear hc hB hv
  go_enter Try.func32, Try.ntmps32
  go_wp2_with fail
  refine Calls.mono HC.out ?_
  rintro e w1 ⟨v1, rfl, o1, b1⟩
  go_wp2_with fail
  go_ret
  exact ⟨_, rfl, by rw [← flat_sp]; exact o1, b1⟩
theorem spansI_is (a : Option Addr) (n cap : Nat) (w : World) : Calls Try.prog 34 #[.slice a n cap] w fun e w' => e = .returned (.func (.func 50) #[] #[.pointer (some ⟨w.heap.size, 0, none⟩)]) ∧ w' = w.alloc (.cells #[.slice a n cap] 59) := by
  go_enter Try.func34, Try.ntmps34
  go_wp2_with fail
  go_ret
  exact ⟨rfl, rfl⟩
theorem ArgK.below {w w' : World} {v : Value} {R : Runs} (h : ArgK w v R) (hb : Below w.heap.size w w') : ArgK w' v R := by
  rcases h with h | ⟨b, cap, rfl, h1, h2, h3, h4⟩
  · exact .inl h
  · exact .inr ⟨b, cap, rfl, Nat.lt_of_lt_of_le h1 hb.size, h2, h3, fun j hj => (hb.cell (p := ⟨b, j, none⟩) h1).trans (h4 j hj)⟩
theorem OwnL.slice {w : World} {v : Value} {l : List Int} {B n : Nat} (h : OwnL w B v n l) : ∃ a cap, v = .slice a n cap := by
  rcases h.forms with ⟨rfl, rfl⟩ | ⟨g, cap, rfl, _⟩
  · exact ⟨none, 0, rfl⟩
  · exact ⟨_, cap, rfl⟩
theorem looks_short {z : Nat → Int} {n : Nat} {c : Int} (h : spansOk z n c = true) : (looksR z n c).length ≤ 80 ∧ cntR (looksR z n c) ≤ 80 := by
  have h1 := looks_cnt h
  have h2 := (spansOk_out h).1
  have h3 := norm_le (norm_looks z n c)
  omega

set_option maxHeartbeats 1000000 in
theorem implPlain (v : Value) (n : Nat) (l : List Int) (c : Int) (w : World) (hv : ArgS w v n l) :
    Calls Try.prog 10 #[v, .int .i64 c] w fun e w' => (∃ v', e = .returned v' ∧ OwnS w' w.heap.size v' (spQ 0 (plainS (fn l) n c)).length (spR 0 (plainS (fn l) n c))) ∧ Below w.heap.size w w' := by
  by_cases hok : spansOk (fn l) n c = true
  · have HO : Hid _ := hok
    have HV : Hid (∀ w', Below w.heap.size w w' → ArgS w' v n l) := fun w' b => hv.below b
    clear hok hv
    go_enter Try.func10, Try.ntmps10
    go_wp2_with fail
    refine (implSpansOk v n l c w (HV.out _ (Below.refl _ _))).mono ?_
    rintro e w1 ⟨rfl, b1⟩
    rw [HO.out]
    go_wp2_with fail
    refine (looksOf_is v n l c w1 (HV.out _ b1) HO.out).mono ?_
    rintro e w2 ⟨v2, rfl, o2, b2⟩
    obtain ⟨a2, c2, rfl⟩ := OwnL.slice o2
    have B2 := bstep b1 b2
    go_wp2_with fail
    refine (spansI_is _ _ _ w2).mono ?_
    rintro e w3 ⟨rfl, hw3⟩
    rw [hw3]
    clear hw3 w3
    go_wp2_with fail
    refine (collect_is w2.heap.size _ (looksR (fn l) n c) (by have := looks_short HO.out; omega) _ (by simp) (by simp) (ArgK.below o2.argK (below_new _ _))).mono ?_
    rintro e w4 ⟨v4, rfl, o4, b4⟩
    go_wp2_with fail
    go_ret
    have B3 := bstep B2 (below_new w2 (.cells #[.slice a2 (looksR (fn l) n c).length c2] 59))
    refine ⟨⟨_, rfl, ?_⟩, bstep B3 b4⟩
    unfold plainS
    rw [if_pos HO.out]
    exact o4.mono B3.size
  · have hno : spansOk (fn l) n c = false := by simpa using hok
    have HO : Hid _ := hno
    clear hok hno
    go_enter Try.func10, Try.ntmps10
    go_wp2_with fail
    refine (implSpansOk v n l c w hv).mono ?_
    rintro e w1 ⟨rfl, b1⟩
    rw [HO.out]
    go_wp2_with fail
    go_ret
    refine ⟨⟨_, rfl, ?_⟩, b1⟩
    unfold plainS
    rw [HO.out, if_neg (by simp)]
    exact OwnS.nil _ _
end Go.Proofs.Ytobmdefklgkoiaa
