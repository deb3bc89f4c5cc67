import Derived.Test.YtbacfaddljjopaaClusWide
namespace Go.Proofs.Ytbacfaddljjopaa
open Go.ChangeShapes Go.WideShapes Go.ChangeAt Go.RowKit
set_option linter.unusedSimpArgs false

/-- How wide what begins at a letter is. -/
def WideIs (l : List Int) (a W : Int) : Prop :=
  (okF (fn l) l.length = false ∧ W = 0) ∨ (okF (fn l) l.length = true ∧ ¬ (0 ≤ a ∧ a < (l.length : Int)) ∧ W = 0) ∨
  (∃ p : Nat, a = (p : Int) ∧ okF (fn l) l.length = true ∧ p < l.length ∧ begins (fn l) p = false ∧ W = 0) ∨
  ∃ p e : Nat, a = (p : Int) ∧ okF (fn l) l.length = true ∧ p < l.length ∧ begins (fn l) p = true ∧ Ends (fn l) l.length p e ∧ W = wdMax (fn l) p (e - p)
theorem WideIs.bad {l : List Int} (a : Int) (hok : okF (fn l) l.length = false) : WideIs l a 0 := .inl ⟨hok, rfl⟩
theorem WideIs.far {l : List Int} (a : Int) (hok : okF (fn l) l.length = true) (h : ¬ (0 ≤ a ∧ a < (l.length : Int))) : WideIs l a 0 := .inr (.inl ⟨hok, h, rfl⟩)
theorem WideIs.ins {l : List Int} (p : Nat) (hok : okF (fn l) l.length = true) (hp : p < l.length) (hb : begins (fn l) p = false) : WideIs l (p : Int) 0 := .inr (.inr (.inl ⟨p, rfl, hok, hp, hb, rfl⟩))
theorem WideIs.yes {l : List Int} (p e : Nat) (hok : okF (fn l) l.length = true) (hp : p < l.length) (hb : begins (fn l) p = true) (hE : Ends (fn l) l.length p e) : WideIs l (p : Int) (wdMax (fn l) p (e - p)) := .inr (.inr (.inr ⟨p, e, rfl, hok, hp, hb, hE, rfl⟩))
theorem wideIs_some (l : List Int) (a : Int) : ∃ W, WideIs l a W := by
  cases hok : okF (fn l) l.length
  · exact ⟨0, .bad a hok⟩
  · by_cases h : 0 ≤ a ∧ a < (l.length : Int)
    · obtain ⟨p, rfl⟩ : ∃ p : Nat, a = (p : Int) := ⟨a.toNat, by omega⟩
      have hp : p < l.length := by omega
      cases hb : begins (fn l) p
      · exact ⟨0, .ins p hok hp hb⟩
      · obtain ⟨e, hE⟩ := ends_exists (fn l) l.length p hp
        exact ⟨_, .yes p e hok hp hb hE⟩
    · exact ⟨0, .far a hok h⟩

set_option maxHeartbeats 2000000 in
theorem wideOf_row (b off cap' n g cp m k p e0 : Nat) (l cs : List Int) (w : World) (hn : Hid (l.length = n)) (hm : Hid (cs.length = m)) (hat : At w b off l) (hb : b < w.heap.size) (hats : At w g 0 cs) (hk : k < m) (hp : Hid (fn cs k = (p : Int))) (he : Hid (if k + 1 < m then fn cs (k + 1) = (e0 : Int) else e0 = n)) (hpe0 : p < e0) (hen0 : e0 ≤ n) (hcap : n ≤ cap') (hn4 : n ≤ 4194304) (hm4 : m ≤ 4194304) :
    Calls Try.prog 37 #[.slice (some ⟨b, off, none⟩) n cap', .slice (some ⟨g, 0, none⟩) m cp, .int .i64 k] w fun e w' => e = .returned (.int .i64 (wdMax (fn l) p (e0 - p))) ∧ Below w.heap.size w w' := by
  have HAT : Hid (At w b off l) := hat
  have cK : w.cell? ⟨g, k, none⟩ = some (.int .i64 (p : Int)) := by
    have h1 := hats k (by rw [hm.out]; exact hk)
    rw [Nat.zero_add, hp.out] at h1; exact h1
  have hen : (e0 : Int) ≤ (n : Int) := by omega
  have hpe : (p : Int) ≤ (e0 : Int) := by omega
  have hec : (e0 : Int) ≤ (cap' : Int) := by omega
  have hncap : (n : Int) ≤ (cap' : Int) := by omega
  have hkm : (k : Int) < (m : Int) := by omega
  clear hat
  by_cases hk1 : k + 1 < m
  · have hcell : w.cell? ⟨g, k + 1, none⟩ = some (.int .i64 (e0 : Int)) := by
      have h1 := hats (k + 1) (by rw [hm.out]; exact hk1)
      have h2 := he.out
      rw [if_pos hk1] at h2
      rw [Nat.zero_add, h2] at h1; exact h1
    have hk1i : (k : Int) + 1 < (m : Int) := by omega
    clear hats
    · go_enter Try.func37, Try.ntmps37
      go_wp2_with fail
      go_loopw [8, 31] (fun q i wr => ∃ c : Nat, c ≤ e0 - p ∧ i = .int .i64 c ∧ q = .int .i64 (wdMax (fn l) p c) ∧ Below w.heap.size w wr) (fun _ i _ => e0 - p - (intOf i).toNat)
      case atStart => exact ⟨0, Nat.zero_le _, rfl, rfl, Below.refl _ _⟩
      case round =>
        obtain ⟨c, hc, rfl, rfl, hbel⟩ := hrel
        by_cases hlt : c < e0 - p
        · have hcell : wr.cell? ⟨b, off + p + c, none⟩ = some (.int .i64 (fn l (p + c))) := by
            have := (HAT.out.below hbel hb) (p + c) (by rw [hn.out]; omega)
            rwa [← Nat.add_assoc] at this
          have hbd := wdMax_bounds (fn l) p c
          have hbd2 := wd_bounds (fn l (p + c))
          by_cases hgt : wdMax (fn l) p c < wd (fn l (p + c))
          · have HX : Hid _ := wdMax_more (z := fn l) (p := p) (c := c) (k := p + c) rfl hgt
            go_wp2_with (go_at_call 68; refine (implWd _ _).mono ?_; rintro e w3 ⟨rfl, hw3⟩)
            go_roundw
            case rel => exact ⟨c + 1, by omega, by go_num, by rw [HX.out]; try rfl, bstep hbel hw3⟩
            case measure => simp only [intOf]; omega
          · have HX : Hid _ := wdMax_less (z := fn l) (p := p) (c := c) (k := p + c) rfl hgt
            go_wp2_with (go_at_call 68; refine (implWd _ _).mono ?_; rintro e w3 ⟨rfl, hw3⟩)
            go_roundw
            case rel => exact ⟨c + 1, by omega, by go_num, by rw [HX.out]; try rfl, bstep hbel hw3⟩
            case measure => simp only [intOf]; omega
        · have e : c = e0 - p := by omega
          subst e
          go_wp2_with fail
          go_ret
          exact ⟨rfl, hbel⟩
  · have e5 : e0 = n := by
      have h2 := he.out
      rw [if_neg hk1] at h2; exact h2
    have hk1i : ¬ (k : Int) + 1 < (m : Int) := by omega
    subst e5
    clear hats
    · go_enter Try.func37, Try.ntmps37
      go_wp2_with fail
      go_loopw [8, 31] (fun q i wr => ∃ c : Nat, c ≤ e0 - p ∧ i = .int .i64 c ∧ q = .int .i64 (wdMax (fn l) p c) ∧ Below w.heap.size w wr) (fun _ i _ => e0 - p - (intOf i).toNat)
      case atStart => exact ⟨0, Nat.zero_le _, rfl, rfl, Below.refl _ _⟩
      case round =>
        obtain ⟨c, hc, rfl, rfl, hbel⟩ := hrel
        by_cases hlt : c < e0 - p
        · have hcell : wr.cell? ⟨b, off + p + c, none⟩ = some (.int .i64 (fn l (p + c))) := by
            have := (HAT.out.below hbel hb) (p + c) (by rw [hn.out]; omega)
            rwa [← Nat.add_assoc] at this
          have hbd := wdMax_bounds (fn l) p c
          have hbd2 := wd_bounds (fn l (p + c))
          by_cases hgt : wdMax (fn l) p c < wd (fn l (p + c))
          · have HX : Hid _ := wdMax_more (z := fn l) (p := p) (c := c) (k := p + c) rfl hgt
            go_wp2_with (go_at_call 68; refine (implWd _ _).mono ?_; rintro e w3 ⟨rfl, hw3⟩)
            go_roundw
            case rel => exact ⟨c + 1, by omega, by go_num, by rw [HX.out]; try rfl, bstep hbel hw3⟩
            case measure => simp only [intOf]; omega
          · have HX : Hid _ := wdMax_less (z := fn l) (p := p) (c := c) (k := p + c) rfl hgt
            go_wp2_with (go_at_call 68; refine (implWd _ _).mono ?_; rintro e w3 ⟨rfl, hw3⟩)
            go_roundw
            case rel => exact ⟨c + 1, by omega, by go_num, by rw [HX.out]; try rfl, bstep hbel hw3⟩
            case measure => simp only [intOf]; omega
        · have e : c = e0 - p := by omega
          subst e
          go_wp2_with fail
          go_ret
          exact ⟨rfl, hbel⟩

set_option maxHeartbeats 2000000 in
theorem implCW (v : Value) (l : List Int) (n : Nat) (a W : Int) (a0 : Option Addr) (cap : Nat) (w : World) (hn : Hid (l.length = n)) (hva : v = .slice a0 n cap) (hv : Arg w v l) (hl : n ≤ 4194304) (hW : WideIs l a W) :
    Calls Try.prog 15 #[v, .int .i64 a] w fun e w' => e = .returned (.int .i64 W) ∧ Below w.heap.size w w' := by
  have HO := implStarts v l w hv (by rw [hn.out]; exact hl)
  have hc80 := clus_len l
  by_cases hmem : a ∈ clus l
  · rcases hW with ⟨hok, rfl⟩ | ⟨hok, h, rfl⟩ | ⟨p, rfl, hok, hp, hb, rfl⟩ | ⟨p, e0, rfl, hok, hp, hb, hE, rfl⟩
    · rw [clus_bad hok] at hmem; simp at hmem
    · exfalso; rw [clus_ok hok] at hmem
      have := starts_lt _ _ _ hmem; omega
    · exfalso; rw [clus_ok hok, mem_starts] at hmem
      obtain ⟨k, _, h2, h3⟩ := hmem
      have : k = p := by omega
      subst this; rw [hb] at h3; cases h3
    · clear hmem
      rw [hn.out] at hp hE
      rcases hv with ⟨a1, c1, h1, h2⟩ | ⟨b, off, cap', hv1, hbw, hlcap, hcmx, hat⟩
      · exfalso; have := hn.out; rw [h2] at this; simp at this; omega
      · rw [hn.out] at hv1 hlcap
        subst hv1
        clear hva
        have hE1 := hE.lt
        have hE2 := hE.le
        have hmem : (p : Int) ∈ clus l := by rw [clus_ok hok, mem_starts]; exact ⟨p, by rw [hn.out]; exact hp, rfl, hb⟩
        go_enter Try.func15, Try.ntmps15
        go_wp2_with fail
        refine HO.mono ?_
        rintro e w1 ⟨⟨vs, rfl, os⟩, b1⟩
        rcases os.forms with ⟨rfl, hs0⟩ | ⟨g, cp, rfl, hg, hgw, hlc, hcm, hats⟩
        · exfalso; rw [hs0] at hmem; simp at hmem
        · clear hmem
          obtain ⟨m, hm⟩ : ∃ m, (clus l).length = m := ⟨_, rfl⟩
          have HM : Hid _ := hm
          rw [hm] at hlc hc80 ⊢
          have HS := search_row g 0 cp m (clus l) (p : Int) w1 hm (by omega) hats (by rw [← hm]; exact clus_up l)
          clear hm
          have HOK : Hid _ := hok
          clear hok
          go_wp2_with fail
          refine HS.mono ?_
          rintro e w2 ⟨⟨k, rfl, hF⟩, rfl⟩
          have hF2 : Found (starts (fn l) l.length) (p : Int) k := by rw [← clus_ok HOK.out]; exact hF
          have hy := (found_yes hF2 (by rw [hn.out]; exact hp)).2 hb
          have hh : hitB (clus l) (p : Int) k = true := by
            unfold hitB
            rw [clus_ok HOK.out, decide_eq_true_eq]; exact hy
          have hkm : k < m := by have := hy.1; rw [← clus_ok HOK.out, HM.out] at this; exact this
          have hEE : ∀ e : Nat, (if k + 1 < (starts (fn l) l.length).length then fn (starts (fn l) l.length) (k + 1) = (e : Int) else e = l.length) → e = e0 := fun e he =>
            ends_same (ends_starts hy.1 hy.2 e he) (by rw [hn.out]; exact hE)
          have HE : Hid _ := hEE
          have hb1 := b1.size
          have HY : Hid _ := hy
          clear hEE hF hF2 hy HS HO hb hE
          have hFK : fn (clus l) k = (p : Int) := by rw [clus_ok HOK.out]; exact HY.out.2
          have hEK : if k + 1 < m then fn (clus l) (k + 1) = (e0 : Int) else e0 = n := by
            by_cases hk1 : k + 1 < m
            · rw [if_pos hk1]
              have h2 : k + 1 < (starts (fn l) l.length).length := by rw [← clus_ok HOK.out, HM.out]; exact hk1
              obtain ⟨q, _, h4, _⟩ := starts_of h2
              have h5 := HE.out q (by rw [if_pos h2]; exact h4)
              rw [clus_ok HOK.out, h4, h5]
            · rw [if_neg hk1]
              have := HE.out l.length (by rw [← clus_ok HOK.out, HM.out, if_neg hk1])
              rw [hn.out] at this; exact this.symm
          have HFK : Hid _ := hFK
          have HEK : Hid _ := hEK
          clear hFK hEK
          go_wp2_with fail
          refine (wideOf_row b off cap' n g cp m k p e0 l (clus l) w2 hn HM (hat.below b1 hbw) (Nat.lt_of_lt_of_le hbw hb1) hats hkm HFK HEK hE1 hE2 hlcap hl (by omega)).mono ?_
          rintro e w3 ⟨rfl, b3⟩
          go_wp2_with fail
          go_ret
          exact ⟨rfl, bstep b1 b3⟩
  · have HW : Hid (W = 0) := by
      show W = 0
      rcases hW with ⟨_, e⟩ | ⟨_, _, e⟩ | ⟨_, _, _, _, _, e⟩ | ⟨p, e0, rfl, hok, hp, hb, hE, _⟩
      · exact e
      · exact e
      · exact e
      · exact absurd (by rw [clus_ok hok, mem_starts]; exact ⟨p, hp, rfl, hb⟩) hmem
    subst hva
    go_enter Try.func15, Try.ntmps15
    go_wp2_with fail
    refine HO.mono ?_
    rintro e w1 ⟨⟨vs, rfl, os⟩, b1⟩
    go_wp2_with fail
    refine (search_any _ (clus l) _ _ os.arg (by omega) (clus_up l)).mono ?_
    rintro e w2 ⟨⟨k, rfl, hF⟩, rfl⟩
    have hh : hitB (clus l) a k = false := by
      unfold hitB; rw [decide_eq_false_iff_not]; exact found_none hmem
    clear hF
    go_wp2_with fail
    go_ret
    exact ⟨retInt HW.out.symm, b1⟩
end Go.Proofs.Ytbacfaddljjopaa
