import Derived.Test.YtanhmphmpobceaaClusAtM
namespace Go.Proofs.Ytanhmphmpobceaa
open Go.ChangeShapes Go.WideShapes Go.ChangeAt Go.RowKit
set_option linter.unusedSimpArgs false

set_option maxHeartbeats 1000000 in
theorem implAt (v : Value) (l : List Int) (n : Nat) (a : Int) (a0 : Option Addr) (cap : Nat) (w : World) (hn : Hid (l.length = n)) (hva : v = .slice a0 n cap) (hv : Arg w v l) (hl : n ≤ 4194304) :
    Calls Try.prog 14 #[v, .int .i64 a] w fun e w' => e = .returned (.int .i64 (atR l a)) ∧ Below w.heap.size w w' := by
  have HO := implStarts v l w hv (by rw [hn.out]; exact hl)
  subst hva
  go_enter Try.func14, Try.ntmps14
  go_wp2_with fail
  refine HO.mono ?_
  rintro e w1 ⟨⟨vs, rfl, os⟩, b1⟩
  rcases os.forms with ⟨rfl, hs0⟩ | ⟨g, cp, rfl, hg, hgw, hlc, hcm, hat⟩
  · have HR : Hid (atR l a = -1) := by
      show atR l a = -1
      cases hok : okF (fn l) l.length
      · exact atR_bad hok
      · refine atR_out fun h => ?_
        have := clus_first hok (by omega)
        rw [hs0] at this; simp at this
    clear hs0
    go_wp2_with fail
    go_ret
    exact ⟨retInt HR.out.symm, b1⟩
  · obtain ⟨m, hm⟩ : ∃ m, (clus l).length = m := ⟨_, rfl⟩
    have HM : Hid _ := hm
    have hc80 := clus_len l
    rw [hm] at hlc hc80 ⊢
    have HS := search_row g 0 cp m (clus l) a w1 hm (by omega) hat (by rw [← hm]; exact clus_up l)
    clear hm
    by_cases hm0 : m = 0
    · have HR : Hid (atR l a = -1) := by
        show atR l a = -1
        cases hok : okF (fn l) l.length
        · exact atR_bad hok
        · refine atR_out fun h => ?_
          have := clus_first hok (by omega)
          rw [HM.out] at this; omega
      subst hm0
      go_wp2_with fail
      go_ret
      exact ⟨retInt HR.out.symm, b1⟩
    · have hok : okF (fn l) l.length = true := by
        cases hok : okF (fn l) l.length
        · have := HM.out; rw [clus_bad hok] at this; simp at this; omega
        · rfl
      have hmb : ((m : Int) == 0) = false := by simp; omega
      by_cases hin : 0 ≤ a ∧ a < (n : Int)
      · obtain ⟨p, rfl⟩ : ∃ p : Nat, a = (p : Int) := ⟨a.toNat, by omega⟩
        have hpl : p < l.length := by rw [hn.out]; omega
        have HR : Hid _ := atR_yes hok hpl
        have HOK : Hid _ := hok
        clear hok
        go_wp2_with fail
        refine HS.mono ?_
        rintro e w2 ⟨⟨k, rfl, hF⟩, rfl⟩
        have hF2 : Hid (Found (starts (fn l) l.length) (p : Int) k) := by
          show Found (starts (fn l) l.length) (p : Int) k
          rw [← clus_ok HOK.out]; exact hF
        cases hbeg : begins (fn l) p
        · have hh : hitB (clus l) (p : Int) k = false := by
            unfold hitB
            rw [clus_ok HOK.out, decide_eq_false_iff_not, found_yes hF2.out hpl, hbeg]; simp
          have hA := found_ahead hF2.out hpl hbeg
          obtain ⟨q, rfl⟩ : ∃ q, k = q + 1 := ⟨k - 1, by omega⟩
          have hqm : q < m := by have := hF.le; rw [HM.out] at this; omega
          have hcell : w2.cell? ⟨g, q, none⟩ = some (.int .i64 (fn (clus l) q)) := by
            have := hat q (by rw [HM.out]; exact hqm)
            rwa [Nat.zero_add] at this
          have HA : Hid (fn (clus l) q = atOf (fn l) p) := by
            show fn (clus l) q = _
            rw [clus_ok HOK.out]; simpa using hA.2
          clear hA
          go_wp2_with fail
          go_ret
          exact ⟨retInt (by rw [HR.out, HA.out]), b1⟩
        · have hh : hitB (clus l) (p : Int) k = true := by
            unfold hitB
            rw [clus_ok HOK.out, decide_eq_true_eq, found_yes hF2.out hpl]; exact hbeg
          go_wp2_with fail
          go_ret
          exact ⟨retInt (by rw [HR.out, (atOf_self _ _).2 hbeg]), b1⟩
      · have HR : Hid _ := atR_out (l := l) (a := a) (by rw [hn.out]; exact hin)
        by_cases ha0 : a < 0
        · go_wp2_with fail
          go_ret
          exact ⟨retInt HR.out.symm, b1⟩
        · have han : (n : Int) ≤ a := by omega
          go_wp2_with fail
          go_ret
          exact ⟨retInt HR.out.symm, b1⟩
end Go.Proofs.Ytanhmphmpobceaa
