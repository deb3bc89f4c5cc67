import Derived.Test.YtgojdlbidjnmmaaGreatWeakI2
import Derived.Test.YtgojdlbidjnmmaaGreatFillAt
namespace Go.Proofs.YtgojdlbidjnmmaaGreat
open Go.ChangeShapes Go.WideShapes Go.ChangeAt Go.RowKit
set_option linter.unusedSimpArgs false

theorem m4_keep {z : Nat → Int} {n k : Nat} (h : btw (m4 z n k) (z (k + 1)) (z (k + 2)) = false) : m4 z n (k + 1) = z (k + 1) := by
  show (if _ then _ else _) = _
  rw [if_neg (by simp [h])]
theorem m4_end {z : Nat → Int} {n k : Nat} (h : ¬ k + 2 < n) : m4 z n (k + 1) = z (k + 1) := by
  show (if _ then _ else _) = _
  rw [if_neg (by simp [h])]
theorem m4_take {z : Nat → Int} {n k : Nat} (hn : k + 2 < n) (h : btw (m4 z n k) (z (k + 1)) (z (k + 2)) = true) : m4 z n (k + 1) = m4 z n k := by
  show (if _ then _ else _) = _
  rw [if_pos ⟨hn, h⟩]

set_option maxHeartbeats 2000000 in
theorem implR4 (R g n cp B : Nat) (b : Int) (l : List Int) (w : World) (hw : WT w R g n cp b) (hn : Hid (l.length = n)) (hv : OwnI w B (.slice (some ⟨g, 0, none⟩) n cp) l) (hn0 : 0 < n) (hl : n ≤ 80) :
    Calls Tryz.prog 103 #[.pointer (some ⟨R, 0, none⟩)] w fun e w' => e = .returned (.tuple #[]) ∧ Ruled w w' B g n cp (r4 l) := by
  have HR : Hid (r4 l = mkL n (m4 (fn l) n)) := by show _ = _; unfold r4; rw [hn.out]
  rw [HR.out]
  have HS : Hid (Ruling w w B g n cp 1 (m4 (fn l) n) (fn l)) := Ruling.keep (Ruling.start hv) hn0 rfl
  have HW : Hid _ := hw
  obtain ⟨q0, q1, q2, q3⟩ := hw
  go_enter Tryz.func103, Tryz.ntmps103
  go_wp2
  clear q0 q1
  go_loopw [2] (fun i wr => ∃ k : Nat, k + 1 ≤ n ∧ i = .int .i64 ((k : Int) + 1) ∧ Hid (Ruling w wr B g n cp (k + 1) (m4 (fn l) n) (fn l))) (fun i _ => n - (intOf i).toNat)
  case atStart => exact ⟨0, by omega, rfl, HS⟩
  case round =>
    obtain ⟨k, hk, rfl, hr⟩ := hrel
    obtain ⟨q0, q1, _, _⟩ := hr.out.wt HW.out
    by_cases hlt : k + 2 < n
    · have cA := hr.out.done (j := k) (by omega) (by omega)
      have cC := hr.out.cell (j := k + 1) (by omega) (by omega)
      have cD := hr.out.cell (j := k + 2) (by omega) (by omega)
      have fz := hr.out.free (k + 1)
      have HT := fun h => m4_take (z := fn l) (n := n) (k := k) hlt h
      have HK := fun h => m4_keep (z := fn l) (n := n) (k := k) h
      obtain ⟨A, hA⟩ : ∃ A, m4 (fn l) n k = A := ⟨_, rfl⟩
      obtain ⟨C, hC⟩ : ∃ A, fn l (k + 1) = A := ⟨_, rfl⟩
      obtain ⟨D, hD⟩ : ∃ A, fn l (k + 2) = A := ⟨_, rfl⟩
      rw [hA] at cA
      rw [hC] at cC
      rw [hD] at cD
      rw [hA, hC, hD] at HT HK
      have HC : Hid _ := hC
      have HT2 : Hid _ := HT
      have HK2 : Hid _ := HK
      clear hA hC hD HT HK
      have hi1 : ((k : Int) + 1 + 1 < (n : Int)) := by omega
      have hi2 : ((k : Int) + 1 < (n : Int)) := by omega
      have hi3 : ((k : Int) < (n : Int)) := by omega
      by_cases hAD : A = D
      · subst hAD
        have gAD : (A != A) = false := by simp
        by_cases hb : btw A C A = true
        · have hm := HT2.out hb
          have HM : Hid _ := hm
          unfold btw at hb
          rw [decide_eq_true_eq] at hb
          clear HT2 HK2 hm gAD
          rcases hb.2 with ⟨rfl, rfl | rfl⟩ | ⟨rfl, rfl⟩
          all_goals
            clear hb
            go_wp2
            go_quiet (fail)
            go_wp2
            go_roundw
            case rel => exact ⟨k + 1, by omega, by go_num, (hr.out.drewN _).set (by omega) HM.out⟩
            case measure => simp only [intOf]; omega
        · have hb' : btw A C A = false := by simpa using hb
          have hm := HK2.out hb'
          have HM : Hid (m4 (fn l) n (k + 1) = fn l (k + 1)) := by show _ = _; rw [hm, HC.out]
          unfold btw at hb'
          rw [decide_eq_false_iff_not] at hb'
          clear HT2 HK2 hm hb
          by_cases e4 : A = 4
          · subst e4
            have g5 : (C == 5) = false := by simp; omega
            have g8 : (C == 8) = false := by simp; omega
            clear hb'
            go_wp2
            go_quiet (fail)
            go_wp2
            go_roundw
            case rel => exact ⟨k + 1, by omega, by go_num, (hr.out.drewN _).keep (by omega) HM.out⟩
            case measure => simp only [intOf]; omega
          · have g4 : (A == 4) = false := by simpa using e4
            by_cases e7 : A = 7
            · subst e7
              have g8 : (C == 8) = false := by simp; omega
              clear hb' e4
              go_wp2
              go_quiet (fail)
              go_wp2
              go_roundw
              case rel => exact ⟨k + 1, by omega, by go_num, (hr.out.drewN _).keep (by omega) HM.out⟩
              case measure => simp only [intOf]; omega
            · have g7 : (A == 7) = false := by simpa using e7
              clear hb' e4 e7
              go_wp2
              go_quiet (fail)
              go_wp2
              go_roundw
              case rel => exact ⟨k + 1, by omega, by go_num, (hr.out.drewN _).keep (by omega) HM.out⟩
              case measure => simp only [intOf]; omega
      · have gAD : (A != D) = true := by simpa using hAD
        have hm := HK2.out (by unfold btw; rw [decide_eq_false_iff_not]; exact fun h => hAD h.1)
        have HM : Hid (m4 (fn l) n (k + 1) = fn l (k + 1)) := by show _ = _; rw [hm, HC.out]
        clear HT2 HK2 hm hAD
        go_wp2
        go_quiet (fail)
        go_wp2
        go_roundw
        case rel => exact ⟨k + 1, by omega, by go_num, (hr.out.drewN _).keep (by omega) HM.out⟩
        case measure => simp only [intOf]; omega
    · have hi1 : ¬ ((k : Int) + 1 + 1 < (n : Int)) := by omega
      have hfin : Ruling w wr B g n cp n (m4 (fn l) n) (fn l) := by
        by_cases e : k + 1 = n
        · rw [← e]; rw [← e] at hr; exact hr.out
        · have := hr.out.keep (by omega) (m4_end (z := fn l) hlt)
          rwa [show k + 1 + 1 = n by omega] at this
      have HF : Hid _ := hfin
      clear hfin
      go_wp2
      go_end0
      exact ⟨rfl, Ruling.fin (m := m4 (fn l) n) (z := fn l) HF.out⟩
end Go.Proofs.YtgojdlbidjnmmaaGreat
