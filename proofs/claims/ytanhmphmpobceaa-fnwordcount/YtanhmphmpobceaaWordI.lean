import Derived.Test.YtanhmphmpobceaaWordMath
namespace Go.Proofs.Ytanhmphmpobceaa
open Go.ChangeShapes Go.WideShapes Go.ChangeAt Go.RowKit
set_option linter.unusedSimpArgs false

set_option maxHeartbeats 1000000 in
theorem implOfWord (r : Int) (w : World) : Calls Try.prog 31 #[.int .i64 r] w fun e w' => e = .returned (.bool (wordC r)) ∧ Below w.heap.size w w' := by
  go_enter Try.func31, Try.ntmps31
  go_wp2_with fail
  refine (implBidi _ _).mono ?_
  rintro e w2 ⟨rfl, hb2⟩
  go_wp2_with fail
  all_goals (go_ret; refine ⟨retBool ?_, hb2⟩)
  all_goals (simp_all [wordC, wcls])

set_option maxHeartbeats 4000000 in
theorem implWordStarts (v : Value) (l : List Int) (w : World) (hv : Arg w v l) (hl : l.length ≤ 4194304) :
    Calls Try.prog 10 #[v] w fun e w' => (∃ v', e = .returned v' ∧ OwnI w' w.heap.size v' (words l)) ∧ Below w.heap.size w w' := by
  have HO := implStarts v l w hv hl
  have hlen := clus_len l
  have HW : Hid (words l = wpick (fn l) (clus l) (clus l).length) := by
    show words l = _
    cases hok : okF (fn l) l.length
    · rw [words_bad hok, clus_bad hok]; rfl
    · rw [words_ok hok, clus_ok hok, wpick_all]
  have hin : Hid (∀ j, j < (clus l).length → ∃ q : Nat, q < l.length ∧ fn (clus l) j = (q : Int)) := by
    show ∀ j, _
    intro j hj
    cases hok : okF (fn l) l.length
    · rw [clus_bad hok] at hj; simp at hj
    · rw [clus_ok hok] at hj ⊢
      obtain ⟨q, h1, h2, _⟩ := starts_of hj
      exact ⟨q, h1, h2⟩
  go_enter Try.func10, Try.ntmps10
  go_wp2_with fail
  refine HO.mono ?_
  rintro e w1 ⟨⟨vs, rfl, os⟩, b1⟩
  rcases os.forms with ⟨rfl, hs0⟩ | ⟨g, cp, rfl, hg, hgw, hlc, hcm, hat⟩
  · have HW2 : Hid (words l = []) := by show words l = []; rw [HW.out, hs0]; rfl
    clear hs0 HW hin
    go_wp2_with fail
    go_rounds 1
    go_ret
    exact ⟨⟨_, rfl, by rw [HW2.out]; exact OwnI.nil _ _⟩, b1⟩
  · obtain ⟨m, hm⟩ : ∃ m, (clus l).length = m := ⟨_, rfl⟩
    rw [hm] at hlc HW hlen hin ⊢
    by_cases hl0 : l.length = 0
    · have hm0 : m = 0 := by
        rcases Nat.eq_zero_or_pos m with h | h
        · exact h
        · obtain ⟨q, h1, _⟩ := hin.out 0 h; omega
      subst hm0
      clear hl0 hm
      go_wp2_with fail
      go_rounds 1
      go_ret
      exact ⟨⟨_, rfl, by rw [HW.out]; exact OwnI.nil _ _⟩, b1⟩
    · rcases hv with ⟨a0, c0, rfl, h2⟩ | ⟨b, off, cap, rfl, hb, hlc', hcm', hat'⟩
      · exfalso; rw [h2] at hl0; simp at hl0
      · obtain ⟨n, hn⟩ : ∃ n, l.length = n := ⟨_, rfl⟩
        have HM : Hid _ := hm
        have HN : Hid _ := hn
        rw [hn] at hin hl ⊢
        clear hm hn hl0
        go_wp2_with fail
        go_loopw [3, 4, 11] (fun q s i wr => ∃ k : Nat, k ≤ m ∧ i = .int .i64 k ∧ s = .bool (if k = 0 then false else wordC (fn l (fn (clus l) (k - 1)).toNat)) ∧ OwnI wr w1.heap.size q (wpick (fn l) (clus l) k) ∧ Below w1.heap.size w1 wr) (fun _ _ i _ => m - (intOf i).toNat)
        case atStart => exact ⟨0, Nat.zero_le _, rfl, rfl, OwnI.nil _ _, Below.refl _ _⟩
        case round =>
          obtain ⟨k, hk, rfl, rfl, hown, hbel⟩ := hrel
          by_cases hlt : k < m
          · obtain ⟨q, hq, eq⟩ := hin.out k hlt
            have hcell : wr.cell? ⟨g, k, none⟩ = some (.int .i64 (q : Int)) := by
              have := (hat.below hbel hgw) k (by rw [HM.out]; omega)
              rw [Nat.zero_add, eq] at this; exact this
            have hcell2 : wr.cell? ⟨b, off + q, none⟩ = some (.int .i64 (fn l q)) := ((hat'.below b1 hb).below hbel (Nat.lt_of_lt_of_le hb b1.size)) q (by rw [HN.out]; omega)
            have hle := wpick_len (fn l) (clus l) k
            have HP : Hid (wpick (fn l) (clus l) (k + 1) = if (decide (k = 0) || (wordC (fn l q) != wordC (fn l (fn (clus l) (k - 1)).toNat))) = true then wpick (fn l) (clus l) k ++ [(q : Int)] else wpick (fn l) (clus l) k) := by
              show wpick (fn l) (clus l) (k + 1) = _
              simp only [wpick, eq, Int.toNat_natCast]
            have HE : Hid (wordC (fn l (fn (clus l) k).toNat) = wordC (fn l q)) := by show wordC _ = _; rw [eq]; simp
            clear eq
            by_cases hk0 : k = 0
            · subst hk0
              go_wp2_with (first | (go_at_call 31; refine (implOfWord _ _).mono ?_; rintro e w2 ⟨rfl, hw2⟩) | (at_builtin; refine own_append (.tmp 28) (.tmp 30) (hown.below hw2) (by omega) (Nat.le_trans hbel.size hw2.size) rfl rfl rfl rfl ?_; intro v' w3 hown1 hgr1))
              go_roundw
              case rel => exact ⟨0 + 1, by omega, by go_num, by simp only [Nat.zero_add]; rw [if_neg (by omega)]; rw [HE.out], by rw [HP.out, if_pos (by simp)]; exact hown1, grown_below (hbel.trans (hw2.mono hbel.size)) hgr1 (hown.below hw2) (Nat.le_refl _) (Nat.le_trans hbel.size hw2.size)⟩
              case measure => simp only [intOf]; omega
            · obtain ⟨c, hc⟩ : ∃ c, wordC (fn l (fn (clus l) (k - 1)).toNat) = c := ⟨_, rfl⟩
              obtain ⟨d, hd⟩ : ∃ d, wordC (fn l q) = d := ⟨_, rfl⟩
              have HOf := fun w' => implOfWord (fn l q) w'
              rw [hd] at HOf
              have hk1 : ((k : Int) == 0) = false := by simp; omega
              rw [if_neg hk0, hc]
              rw [hc, hd, decide_eq_false hk0, Bool.false_or] at HP
              rw [hd] at HE
              have hs : k + 1 - 1 = k := by omega
              clear hc hd
              by_cases hcd : d = c
              · subst hcd
                have hne : (d != d) = false := by simp
                go_wp2_with (first | (go_at_call 31; refine (HOf _).mono ?_; rintro e w2 ⟨rfl, hw2⟩))
                go_roundw
                case rel => exact ⟨k + 1, by omega, by go_num, by rw [if_neg (by omega), hs, HE.out], by rw [HP.out, if_neg (by simp)]; exact hown.below hw2, hbel.trans (hw2.mono hbel.size)⟩
                case measure => simp only [intOf]; omega
              · have hne : (d == c) = false := by simpa using hcd
                go_wp2_with (first | (go_at_call 31; refine (HOf _).mono ?_; rintro e w2 ⟨rfl, hw2⟩) | (at_builtin; refine own_append (.tmp 28) (.tmp 30) (hown.below hw2) (by omega) (Nat.le_trans hbel.size hw2.size) rfl rfl rfl rfl ?_; intro v' w3 hown1 hgr1))
                go_roundw
                case rel => exact ⟨k + 1, by omega, by go_num, by rw [if_neg (by omega), hs, HE.out], by rw [HP.out, if_pos (by simpa using hcd)]; exact hown1, grown_below (hbel.trans (hw2.mono hbel.size)) hgr1 (hown.below hw2) (Nat.le_refl _) (Nat.le_trans hbel.size hw2.size)⟩
                case measure => simp only [intOf]; omega
          · have e : k = m := by omega
            subst e
            go_wp2_with fail
            all_goals go_ret
            all_goals exact ⟨⟨_, rfl, by rw [HW.out]; exact hown.mono b1.size⟩, bstep b1 hbel⟩
end Go.Proofs.Ytanhmphmpobceaa
