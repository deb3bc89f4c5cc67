import Derived.Test.YtbeecmcgdlnakaaMg2
import Derived.Test.YtbeecmcgdlnakaaMg7
import Derived.Deep.QuietTactic
import Derived.BigQuiet
namespace Go.Proofs.Ytbeecmcgdlnakaa
open Go.ChangeShapes Go.WideShapes Go.ChangeAt Go.RowKit
set_option linter.unusedSimpArgs false

def eqB (a b : List Int) : Bool := decide (a = b)
theorem eqB_self (a : List Int) : eqB a a = true := by simp [eqB]
theorem eqB_no {a b : List Int} (h : a ≠ b) : eqB a b = false := by simp [eqB, h]

set_option maxHeartbeats 2000000 in
theorem wcInts_any (v1 v2 : Value) (l1 l2 : List Int) (w : World) (h1 : Arg w v1 l1) (h2 : Arg w v2 l2) (hl : l1.length ≤ 4194304) :
    Calls Try.prog 12 #[v1, v2] w fun e w' => e = .returned (.bool (eqB l1 l2)) ∧ ∃ n, w' = w.drewN n := by
  by_cases hn : l1.length = l2.length
  · rcases h1 with ⟨a1, c1, rfl, rfl⟩ | ⟨b, off, cap, rfl, hb, hlc, hcm, hat⟩
    · have e2 : l2 = [] := List.eq_nil_of_length_eq_zero hn.symm
      subst e2
      rcases h2 with ⟨a2, c2, rfl, _⟩ | ⟨b', off', cap', rfl, hb', hlc', hcm', hat'⟩
      all_goals
        go_enter Try.func12, Try.ntmps12
        go_wp2
        go_rounds 1
        go_ret
        exact ⟨rfl, 0, rfl⟩
    · rcases h2 with ⟨a2, c2, rfl, rfl⟩ | ⟨b', off', cap', rfl, hb', hlc', hcm', hat'⟩
      · have e1 : l1 = [] := List.eq_nil_of_length_eq_zero hn
        subst e1
        go_enter Try.func12, Try.ntmps12
        go_wp2
        go_rounds 1
        go_ret
        exact ⟨rfl, 0, rfl⟩
      · obtain ⟨n, hn1⟩ : ∃ n, l1.length = n := ⟨_, rfl⟩
        have hn2 : l2.length = n := by omega
        have hnn : n ≤ 4194304 := by omega
        rw [hn1, hn2]
        clear hn
        go_enter Try.func12, Try.ntmps12
        go_wp2
        go_loopw [5] (fun i wr => ∃ (k m : Nat), k ≤ n ∧ i = .int .i64 k ∧ wr = w.drewN m ∧ Hid (∀ j, j < k → fn l1 j = fn l2 j)) (fun i _ => n - (intOf i).toNat)
        case atStart => exact ⟨0, 0, Nat.zero_le _, rfl, rfl, fun j hj => by omega⟩
        case round =>
          obtain ⟨k, m, hk, rfl, rfl, hsame⟩ := hrel
          by_cases hlt : k < n
          · have hc1 : w.cell? ⟨b, off + k, none⟩ = some (.int .i64 (fn l1 k)) := hat k (by omega)
            have hc2 : w.cell? ⟨b', off' + k, none⟩ = some (.int .i64 (fn l2 k)) := hat' k (by omega)
            have hki : (k : Int) < (n : Int) := by omega
            by_cases hq : fn l1 k = fn l2 k
            · have hq2 : (fn l1 k == fn l2 k) = true := by simpa using hq
              have HQ : Hid _ := hq
              clear hq
              go_wp2
              go_quiet (fail)
              go_wp2
              go_roundw
              case rel =>
                refine ⟨k + 1, _, by omega, by go_num, by first | rfl | rw [World.drewN_drewN], fun j hj => ?_⟩
                by_cases ej : j = k
                · subst ej; exact HQ.out
                · exact hsame.out j (by omega)
              case measure => simp only [intOf]; omega
            · have hq2 : (fn l1 k == fn l2 k) = false := by simpa using hq
              go_wp2
              go_quiet (fail)
              go_wp2
              go_ret
              exact ⟨retBool (eqB_no (fun h => hq (by rw [h]))).symm, _, by first | rfl | rw [World.drewN_drewN]⟩
          · have e : k = n := by omega
            subst e
            go_wp2
            go_ret
            refine ⟨retBool ?_, _, rfl⟩
            rw [ext_fn (l := l1) (r := l2) (by omega) (fun j hj => hsame.out j (by omega)), eqB_self]
  · have hfin := eqB_no (a := l1) (b := l2) (fun h => hn (by rw [h]))
    have HF : Hid _ := hfin
    have hne : ((l1.length : Int) != (l2.length : Int)) = true := by simp; omega
    clear hfin
    rcases h1 with ⟨a1, c1, rfl, e1⟩ | ⟨b, off, cap, rfl, hb, hlc, hcm, hat⟩
    all_goals
      rcases h2 with ⟨a2, c2, rfl, e2⟩ | ⟨b', off', cap', rfl, hb', hlc', hcm', hat'⟩
    · exact absurd (by rw [e1, e2]) hn
    · have hz : ((0 : Int) != (l2.length : Int)) = true := by rw [e1] at hne; exact hne
      clear hne
      go_enter Try.func12, Try.ntmps12
      go_wp2
      go_ret
      exact ⟨retBool HF.out.symm, 0, rfl⟩
    · have hz : ((l1.length : Int) != (0 : Int)) = true := by rw [e2] at hne; exact hne
      clear hne
      go_enter Try.func12, Try.ntmps12
      go_wp2
      go_ret
      exact ⟨retBool HF.out.symm, 0, rfl⟩
    · go_enter Try.func12, Try.ntmps12
      go_wp2
      go_ret
      exact ⟨retBool HF.out.symm, 0, rfl⟩

theorem wcInts_yes (v1 v2 : Value) (l : List Int) (w : World) (h1 : Arg w v1 l) (h2 : Arg w v2 l) (hl : l.length ≤ 4194304) :
    Calls Try.prog 12 #[v1, v2] w fun e w' => e = .returned (.bool true) ∧ Below w.heap.size w w' := by
  refine (wcInts_any v1 v2 l l w h1 h2 hl).mono ?_
  rintro e w' ⟨rfl, n, rfl⟩
  exact ⟨retBool (eqB_self l), below_draws w n⟩
end Go.Proofs.Ytbeecmcgdlnakaa
namespace Go.Proofs.Ytbeecmcgdlnakaa
open Go.ChangeShapes Go.WideShapes Go.ChangeAt Go.RowKit
set_option linter.unusedSimpArgs false
set_option linter.unusedVariables false

theorem RR.cellA {w : World} {B : Nat} {vs : List Value} {rows : List (List Int)} {g n cap : Nat} (h : RR w B (.slice (some ⟨g, 0, none⟩) n cap) vs rows) (j : Nat) (hj : j < n) : w.cell? ⟨g, j, none⟩ = some (vN vs j) := by
  have hown := h.own
  obtain ⟨a, c, e⟩ := hown.slc
  simp only [Value.slice.injEq] at e
  obtain ⟨rfl, rfl, rfl⟩ := e
  have hl := h.len
  rw [hown.cell j (by omega)]
  simp [vN, show j < vs.length by omega]
set_option maxHeartbeats 2000000 in
theorem wcRows_yes (v1 v2 : Value) (vs1 vs2 : List Value) (R : List (List Int)) (B1 B2 : Nat) (w : World) (h1 : RR w B1 v1 vs1 R) (h2 : RR w B2 v2 vs2 R) (hl : ∀ j, j < R.length → (rN R j).length ≤ 4194304) (hn : R.length ≤ 1048576) :
    Calls Try.prog 17 #[v1, v2] w fun e w' => e = .returned (.bool true) ∧ Below w.heap.size w w' := by
  obtain ⟨a1, c1, rfl⟩ := h1.slc
  obtain ⟨a2, c2, rfl⟩ := h2.slc
  obtain ⟨n, hn0⟩ : ∃ n, R.length = n := ⟨_, rfl⟩
  rw [hn0] at h1 h2 hn hl ⊢
  have HN : Hid (R.length = n) := hn0
  have HL : Hid (∀ j, j < n → (rN R j).length ≤ 4194304) := hl
  have H1 : Hid (RR w B1 (.slice a1 n c1) vs1 R) := h1
  have H2 : Hid (RR w B2 (.slice a2 n c2) vs2 R) := h2
  clear h1 h2 hn0 hl
  go_enter Try.func17, Try.ntmps17
  go_wp2_with fail
  go_loopw [5] (fun i wr => ∃ (m : Nat), m ≤ n ∧ i = .int .i64 m ∧ Hid (Below w.heap.size w wr)) (fun i _ => n - (intOf i).toNat)
  case atStart => exact ⟨0, Nat.zero_le _, rfl, Below.refl _ _⟩
  case round =>
    obtain ⟨m, hm, rfl, hbel⟩ := hrel
    by_cases hlt : m < n
    · have hmi : (m : Int) < (n : Int) := by omega
      obtain ⟨g1, c1', e1, _⟩ := H1.out.own.form1 (by rw [HN.out]; omega)
      simp only [Value.slice.injEq] at e1
      obtain ⟨rfl, hz1, rfl⟩ := e1
      obtain ⟨g2, c2', e2, _⟩ := H2.out.own.form1 (by rw [HN.out]; omega)
      simp only [Value.slice.injEq] at e2
      obtain ⟨rfl, hz2, rfl⟩ := e2
      clear hz1 hz2
      have k1 := (H1.out.below hbel.out).cellA m hlt
      have k2 := (H2.out.below hbel.out).cellA m hlt
      have r1 := (H1.out.below hbel.out).row m (by rw [HN.out]; exact hlt)
      have r2 := (H2.out.below hbel.out).row m (by rw [HN.out]; exact hlt)
      have HEQ : Hid (∀ q, Calls Try.prog 12 #[vN vs1 m, vN vs2 m] (wr.drewN q) fun e w' => e = .returned (.bool true) ∧ ∃ z, w' = wr.drewN z) := fun q => by
        refine (wcInts_any _ _ (rN R m) (rN R m) _ (r1.arg.drewN q) (r2.arg.drewN q) (HL.out m hlt)).mono ?_
        rintro e w' ⟨rfl, z, rfl⟩
        exact ⟨retBool (eqB_self _), q + z, by simp⟩
      have HBB : Hid (∀ z, Below w.heap.size w (wr.drewN z)) := fun z => bstep hbel.out (below_draws wr z)
      clear r1 r2
      go_wp2_with fail
      go_quiet ((go_at_call 12; with_reducible exact HEQ.out _))
      go_wp2_with fail
      go_roundw
      case rel => exact ⟨m + 1, by omega, by go_num, HBB.out _⟩
      case measure => simp only [intOf]; omega
    · have e : m = n := by omega
      subst e
      go_wp2_with fail
      go_ret
      exact ⟨rfl, hbel.out⟩
end Go.Proofs.Ytbeecmcgdlnakaa
namespace Go.Proofs.Ytbeecmcgdlnakaa
open Go.ChangeShapes Go.WideShapes Go.ChangeAt Go.RowKit
set_option linter.unusedSimpArgs false

set_option maxHeartbeats 1000000 in
theorem wcIn_b (n lo hi : Int) (w : World) (q : Bool) (hq : Hid (decide (lo ≤ n ∧ n ≤ hi) = q)) : Calls Try.prog 14 #[.int .i64 n, .int .i64 lo, .int .i64 hi] w fun e w' => e = .returned (.bool q) ∧ w' = w := by
  by_cases h1 : lo ≤ n
  · by_cases h2 : n ≤ hi
    · have HQ : Hid (q = true) := by show _ = _; rw [← hq.out]; simpa using ⟨h1, h2⟩
      go_enter Try.func14, Try.ntmps14
      go_wp2
      go_ret
      exact ⟨retBool HQ.out.symm, rfl⟩
    · have HQ : Hid (q = false) := by show _ = _; rw [← hq.out]; simp; omega
      go_enter Try.func14, Try.ntmps14
      go_wp2
      go_ret
      exact ⟨retBool HQ.out.symm, rfl⟩
  · have HQ : Hid (q = false) := by show _ = _; rw [← hq.out]; simp; omega
    go_enter Try.func14, Try.ntmps14
    go_wp2
    go_ret
    exact ⟨retBool HQ.out.symm, rfl⟩

end Go.Proofs.Ytbeecmcgdlnakaa
