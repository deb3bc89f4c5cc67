import Derived.Test.YtanhmphmpobceaaWordE
namespace Go.Proofs.Ytanhmphmpobceaa
open Go.ChangeShapes Go.WideShapes Go.ChangeAt Go.RowKit
set_option linter.unusedSimpArgs false

set_option maxHeartbeats 4000000 in
theorem implWordAt (v : Value) (l : List Int) (n : Nat) (a : Int) (a0 : Option Addr) (cap : Nat) (w : World) (hn : Hid (l.length = n)) (hva : v = .slice a0 n cap) (hv : Arg w v l) (hl : n ≤ 4194304) :
    Calls Try.prog 13 #[v, .int .i64 a] w fun e w' => (∃ f t : Int, e = .returned (.tuple #[.int .i64 f, .int .i64 t]) ∧ WAns l a f t) ∧ Below w.heap.size w w' := by
  have HO := implWordStarts v l w hv (by rw [hn.out]; exact hl)
  subst hva
  go_enter Try.func13, Try.ntmps13
  go_wp2_with fail
  refine HO.mono ?_
  rintro e w1 ⟨⟨vs, rfl, os⟩, b1⟩
  rcases os.forms with ⟨rfl, hs0⟩ | ⟨g, cp, rfl, hg, hgw, hlc, hcm, hat⟩
  · have HR : Hid (WAns l a 0 0) := by
      show WAns l a 0 0
      cases hok : okF (fn l) l.length
      · exact WAns.bad hok
      · refine WAns.out fun h => ?_
        have := words_first hok (by omega)
        rw [hs0] at this; simp at this
    clear hs0
    go_wp2_with fail
    go_ret2
    exact ⟨⟨_, _, rfl, HR.out⟩, b1⟩
  · obtain ⟨m, hm⟩ : ∃ m, (words l).length = m := ⟨_, rfl⟩
    have HM : Hid ((words l).length = m) := hm
    have hc80 := words_len l
    rw [hm] at hlc hc80 ⊢
    have HS := search_row g 0 cp m (words l) (a + 1) w1 hm (by omega) hat (by rw [← hm]; exact words_up l)
    clear hm
    by_cases hm0 : m = 0
    · have HR : Hid (WAns l a 0 0) := by
        show WAns l a 0 0
        cases hok : okF (fn l) l.length
        · exact WAns.bad hok
        · refine WAns.out fun h => ?_
          have := words_first hok (by omega)
          rw [HM.out] at this; omega
      subst hm0
      go_wp2_with fail
      go_ret2
      exact ⟨⟨_, _, rfl, HR.out⟩, b1⟩
    · have hok : okF (fn l) l.length = true := by
        cases hok : okF (fn l) l.length
        · have := HM.out; rw [words_bad hok] at this; simp at this; omega
        · rfl
      have hmb : ((m : Int) == 0) = false := by simp; omega
      by_cases hin : 0 ≤ a ∧ a < (n : Int)
      · obtain ⟨p, rfl⟩ : ∃ p : Nat, a = (p : Int) := ⟨a.toNat, by omega⟩
        have hpl : p < l.length := by rw [hn.out]; omega
        have HOK : Hid (okF (fn l) l.length = true) := hok
        clear hok
        go_wp2_with fail
        refine HS.mono ?_
        rintro e w2 ⟨⟨k, rfl, hF⟩, rfl⟩
        have hF2 : Found (wstarts (fn l) l.length) ((p : Int) + 1) k := by
          rw [← words_ok HOK.out]; exact hF
        obtain ⟨hk0, f, t, h1, h2, h3⟩ := wspan_found hF2 hpl
        have HR : Hid (WAns l (p : Int) (f : Int) (t : Int)) := WAns.yes HOK.out hpl h3
        obtain ⟨q, rfl⟩ : ∃ q, k = q + 1 := ⟨k - 1, by omega⟩
        have hqm : q + 1 ≤ m := by have := hF.le; rw [HM.out] at this; omega
        have hq1 : q + 1 - 1 = q := by omega
        rw [← words_ok HOK.out, hq1] at h1
        rw [← words_ok HOK.out, HM.out] at h2
        have hc0 : w2.cell? ⟨g, q, none⟩ = some (.int .i64 (f : Int)) := by
          have := hat q (by rw [HM.out]; omega)
          rw [Nat.zero_add, h1] at this; exact this
        have HN : Hid (l.length = n) := hn
        have htn : t ≤ n := by have := h3.tn; rw [HN.out] at this; exact this
        clear hF hF2 h3 hq1 h1 HS
        by_cases hqe : q + 1 = m
        · rw [if_neg (by omega)] at h2
          have ht : (t : Int) = (n : Int) := by rw [h2, HN.out]
          have HT : Hid (t = n) := by show t = n; omega
          have hqi : (((q + 1 : Nat) : Int) == (m : Int)) = true := by simp; omega
          subst hqe
          clear ht h2
          go_wp2_with fail
          go_ret2
          exact ⟨⟨_, _, rfl, by have := HR.out; rw [HT.out] at this; exact this⟩, b1⟩
        · rw [if_pos (by omega)] at h2
          have hc1 : w2.cell? ⟨g, q + 1, none⟩ = some (.int .i64 (t : Int)) := by
            have := hat (q + 1) (by rw [HM.out]; omega)
            rw [Nat.zero_add, h2] at this; exact this
          have hqi : (((q + 1 : Nat) : Int) == (m : Int)) = false := by simp; omega
          have hlt : ((q : Int) + 1) < (m : Int) := by omega
          clear h2
          go_wp2_with fail
          go_quiet (fail)
          go_wp2_with fail
          go_ret2
          exact ⟨⟨_, _, rfl, HR.out⟩, bstep b1 (below_draws _ _)⟩
      · have HR : Hid (WAns l a 0 0) := WAns.out (l := l) (a := a) (by rw [hn.out]; exact hin)
        by_cases ha0 : a < 0
        · go_wp2_with fail
          go_ret2
          exact ⟨⟨_, _, rfl, HR.out⟩, b1⟩
        · have han : (n : Int) ≤ a := by omega
          go_wp2_with fail
          go_ret2
          exact ⟨⟨_, _, rfl, HR.out⟩, b1⟩

/-- How many words. -/
def wordsN (l : List Int) : Int := (wcnt (fn l) (words l) : Int)

set_option maxHeartbeats 4000000 in
theorem implWordCount (v : Value) (l : List Int) (w : World) (hv : Arg w v l) (hl : l.length ≤ 4194304) :
    Calls Try.prog 19 #[v] w fun e w' => e = .returned (.int .i64 (wordsN l)) ∧ Below w.heap.size w w' := by
  have HO := implWordStarts v l w hv hl
  have hlen := words_len l
  have HW : Hid (wordsN l = (wcnt (fn l) ((words l).take (words l).length) : Int)) := by show wordsN l = _; rw [List.take_length]; rfl
  have hin : Hid (∀ j, j < (words l).length → ∃ q : Nat, q < l.length ∧ fn (words l) j = (q : Int)) := by
    show ∀ j, _
    intro j hj
    cases hok : okF (fn l) l.length
    · rw [words_bad hok] at hj; simp at hj
    · rw [words_ok hok] at hj ⊢
      obtain ⟨q, h1, h2, _⟩ := wstarts_of hj
      exact ⟨q, h1, h2⟩
  go_enter Try.func19, Try.ntmps19
  go_wp2_with fail
  refine HO.mono ?_
  rintro e w1 ⟨⟨vs, rfl, os⟩, b1⟩
  rcases os.forms with ⟨rfl, hs0⟩ | ⟨g, cp, rfl, hg, hgw, hlc, hcm, hat⟩
  · have HW2 : Hid (wordsN l = 0) := by show wordsN l = 0; rw [HW.out, hs0]; rfl
    clear hs0 HW hin
    go_wp2_with fail
    go_rounds 1
    go_ret
    exact ⟨retInt HW2.out.symm, b1⟩
  · obtain ⟨m, hm⟩ : ∃ m, (words l).length = m := ⟨_, rfl⟩
    rw [hm] at hlc HW hlen hin ⊢
    by_cases hl0 : l.length = 0
    · have hm0 : m = 0 := by
        rcases Nat.eq_zero_or_pos m with h | h
        · exact h
        · obtain ⟨q, h1, _⟩ := hin.out 0 h; omega
      subst hm0
      clear hl0 hm
      go_wp2_with fail
      go_rounds 1
      go_ret
      exact ⟨retInt HW.out.symm, b1⟩
    · rcases hv with ⟨a0, c0, rfl, h2⟩ | ⟨b, off, cap, rfl, hb, hlc', hcm', hat'⟩
      · exfalso; rw [h2] at hl0; simp at hl0
      · obtain ⟨n, hn⟩ : ∃ n, l.length = n := ⟨_, rfl⟩
        have HM : Hid ((words l).length = m) := hm
        have HN : Hid (l.length = n) := hn
        rw [hn] at hin hl ⊢
        clear hm hn hl0
        go_wp2_with fail
        go_loopw [3, 9] (fun c i wr => ∃ k u : Nat, k ≤ m ∧ i = .int .i64 k ∧ c = .int .i64 u ∧ Hid (u = wcnt (fn l) ((words l).take k)) ∧ u ≤ k ∧ Below w1.heap.size w1 wr) (fun _ i _ => m - (intOf i).toNat)
        case atStart => exact ⟨0, 0, Nat.zero_le _, rfl, rfl, by show 0 = _; simp [wcnt], Nat.le_refl _, Below.refl _ _⟩
        case round =>
          obtain ⟨k, u, hk, rfl, rfl, hu, huk, hbel⟩ := hrel
          by_cases hlt : k < m
          · obtain ⟨q, hq, eq⟩ := hin.out k hlt
            have hcell : wr.cell? ⟨g, k, none⟩ = some (.int .i64 (q : Int)) := by
              have := (hat.below hbel hgw) k (by rw [HM.out]; omega)
              rw [Nat.zero_add, eq] at this; exact this
            have hcell2 : wr.cell? ⟨b, off + q, none⟩ = some (.int .i64 (fn l q)) := ((hat'.below b1 hb).below hbel (Nat.lt_of_lt_of_le hb b1.size)) q (by rw [HN.out]; omega)
            have HP : Hid (wcnt (fn l) ((words l).take (k + 1)) = u + (if wordC (fn l q) = true then 1 else 0)) := by
              show wcnt _ _ = _
              rw [wcnt_take (by rw [HM.out]; exact hlt), ← hu.out, eq, Int.toNat_natCast]
            clear eq
            cases hc : wordC (fn l q)
            · go_wp2_with (first | (go_at_call 31; refine (implOfWord _ _).mono ?_; rintro e w2 ⟨rfl, hw2⟩))
              go_roundw
              case rel => exact ⟨k + 1, u, by omega, by go_num, rfl, by show u = _; rw [HP.out, hc]; rfl, by omega, hbel.trans (hw2.mono hbel.size)⟩
              case measure => simp only [intOf]; omega
            · go_wp2_with (first | (go_at_call 31; refine (implOfWord _ _).mono ?_; rintro e w2 ⟨rfl, hw2⟩))
              go_roundw
              case rel => exact ⟨k + 1, u + 1, by omega, by go_num, by go_num, by show u + 1 = _; rw [HP.out, hc]; rfl, by omega, hbel.trans (hw2.mono hbel.size)⟩
              case measure => simp only [intOf]; omega
          · have e : k = m := by omega
            subst e
            go_wp2_with fail
            go_ret
            exact ⟨retInt (by rw [HW.out, hu.out]), bstep b1 hbel⟩

set_option maxHeartbeats 4000000 in
theorem specWordCount (v : Value) (l : List Int) (w : World) (hv : Arg w v l) (hl : l.length ≤ 4194304) :
    Calls Try.prog 20 #[v] w fun e w' => e = .returned (.int .i64 (wordsN l)) ∧ Below w.heap.size w w' := by
  have HO := specOk v l w hv hl
  cases hok : okF (fn l) l.length
  · have HC : Hid (wordsN l = 0) := by show wordsN l = 0; unfold wordsN; rw [words_bad hok]; rfl
    rw [hok] at HO
    go_enter Try.func20, Try.ntmps20
    go_wp2_with (go_at_call 32; refine HO.mono ?_; rintro e w' ⟨rfl, rfl⟩)
    go_ret
    exact ⟨retInt HC.out.symm, Below.refl _ _⟩
  · have HC : Hid (wordsN l = (wcnt (fn l) (wstarts (fn l) l.length) : Int)) := by show wordsN l = _; unfold wordsN; rw [words_ok hok]
    rw [hok] at HO
    rcases hv with ⟨a0, c0, rfl, rfl⟩ | ⟨b, off, cap, rfl, hb, hlc, hcm, hat⟩
    · go_enter Try.func20, Try.ntmps20
      go_wp2_with (go_at_call 32; refine HO.mono ?_; rintro e w' ⟨rfl, rfl⟩)
      go_rounds 1
      go_ret
      exact ⟨retInt HC.out.symm, Below.refl _ _⟩
    · obtain ⟨n, hn⟩ : ∃ n, l.length = n := ⟨_, rfl⟩
      rw [hn] at HC HO hok hl ⊢
      go_enter Try.func20, Try.ntmps20
      go_wp2_with (go_at_call 32; refine HO.mono ?_; rintro e w' ⟨rfl, rfl⟩)
      go_loopw [3, 4] (fun c i wr => ∃ k u : Nat, k ≤ n ∧ i = .int .i64 k ∧ c = .int .i64 u ∧ Hid (u = wcnt (fn l) (wstarts (fn l) k)) ∧ u ≤ k ∧ Below w'.heap.size w' wr) (fun _ i _ => n - (intOf i).toNat)
      case atStart => exact ⟨0, 0, Nat.zero_le _, rfl, rfl, rfl, Nat.le_refl _, Below.refl _ _⟩
      case round =>
        obtain ⟨k, u, hk, rfl, rfl, hu, huk, hbel⟩ := hrel
        by_cases hlt : k < n
        · have hb' := Nat.lt_of_lt_of_le hb hbel.size
          have hat' := hat.below hbel hb
          cases hbeg : wbeg (fn l) k
          · go_wp2_with (first | (go_at_call 33; refine (specBegins b off cap n l _ k _ hn hb' hat' hl rfl hlt).mono ?_; rintro e w2 ⟨rfl, hw2⟩))
            go_roundw
            case rel => exact ⟨k + 1, u, by omega, by go_num, rfl, by show u = _; rw [wcnt_no (by rw [hbeg]; rfl)]; exact hu.out, by omega, bstep hbel hw2⟩
            case measure => simp only [intOf]; omega
          · cases hc : wordC (fn l k)
            · go_wp2_with (first | (go_at_call 33; refine (specBegins b off cap n l _ k _ hn hb' hat' hl rfl hlt).mono ?_; rintro e w2 ⟨rfl, hw2⟩) | (go_at_call 36; refine (specWord b off cap n l _ k _ hn (hat'.below hw2 hb') hl rfl hlt).mono ?_; rintro e w3 ⟨rfl, hw3⟩))
              go_roundw
              case rel => exact ⟨k + 1, u, by omega, by go_num, rfl, by show u = _; rw [wcnt_no (by rw [hbeg, hc]; rfl)]; exact hu.out, by omega, bstep (bstep hbel hw2) hw3⟩
              case measure => simp only [intOf]; omega
            · go_wp2_with (first | (go_at_call 33; refine (specBegins b off cap n l _ k _ hn hb' hat' hl rfl hlt).mono ?_; rintro e w2 ⟨rfl, hw2⟩) | (go_at_call 36; refine (specWord b off cap n l _ k _ hn (hat'.below hw2 hb') hl rfl hlt).mono ?_; rintro e w3 ⟨rfl, hw3⟩))
              go_roundw
              case rel => exact ⟨k + 1, u + 1, by omega, by go_num, by go_num, by show u + 1 = _; rw [wcnt_yes hbeg hc, ← hu.out], by omega, bstep (bstep hbel hw2) hw3⟩
              case measure => simp only [intOf]; omega
        · have e : k = n := by omega
          subst e
          go_wp2_with fail
          go_ret
          exact ⟨retInt (by rw [HC.out, hu.out]), hbel⟩
end Go.Proofs.Ytanhmphmpobceaa
