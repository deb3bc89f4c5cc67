import Derived.Test.YtbacfaddljjopaaCWI
import Derived.Test.YtbacfaddljjopaaSpanAtI
import Derived.Test.YtbacfaddljjopaaAppend
import Derived.Test.YtbacfaddljjopaaMade
namespace Go.Proofs.Ytbacfaddljjopaa
open Go.ChangeShapes Go.WideShapes Go.ChangeAt Go.RowKit
set_option linter.unusedSimpArgs false

theorem wideIs_fn (l : List Int) : ∃ W : Nat → Int, ∀ k : Nat, WideIs l (k : Int) (W k) :=
  ⟨fun k => Classical.choose (wideIs_some l (k : Int)), fun k => Classical.choose_spec (wideIs_some l (k : Int))⟩
theorem wideIs_bounds {l : List Int} {a W : Int} (h : WideIs l a W) : 0 ≤ W ∧ W ≤ 40 := by
  rcases h with ⟨_, rfl⟩ | ⟨_, _, rfl⟩ | ⟨_, _, _, _, _, rfl⟩ | ⟨p, e, _, _, _, _, _, rfl⟩
  · omega
  · omega
  · omega
  · exact wdMax_bounds _ _ _
theorem wideIs_yes {l : List Int} {p : Nat} {W : Int} (h : WideIs l (p : Int) W) (hok : okF (fn l) l.length = true) (hp : p < l.length) (hb : begins (fn l) p = true) : ∃ e, Ends (fn l) l.length p e ∧ W = wdMax (fn l) p (e - p) := by
  rcases h with ⟨h, _⟩ | ⟨_, h, _⟩ | ⟨q, e0, _, _, h, _⟩ | ⟨q, e, e0, _, _, _, hE, rfl⟩
  · rw [hok] at h; cases h
  · omega
  · have : q = p := by omega
    subst this
    rw [hb] at h; cases h
  · have : q = p := by omega
    subst this
    exact ⟨e, hE, rfl⟩
theorem spAt_bounds {z : Nat → Int} {a : Int} {n : Nat} (h : ∀ j, j < n → 1 ≤ z (j * 4 + 2) ∧ z (j * 4 + 2) ≤ 40) : ∀ k, k ≤ n → 1 ≤ (spAt z a n k).1 ∧ (spAt z a n k).1 ≤ 40 := by
  intro k
  induction k with
  | zero => simp [spAt]
  | succ k ih =>
    intro hk
    simp only [spAt]
    split
    · exact h _ (by omega)
    · exact ih (by omega)
theorem look_bounds {z : Nat → Int} {n : Nat} {c : Int} (a : Int) (h : spansOk z n c = true) : 1 ≤ (lookAt z n a).1 ∧ (lookAt z n a).1 ≤ 40 :=
  spAt_bounds (fun j hj => by have := (rowOk_parts ((spansOk_out h).2 j hj)).1; omega) n (Nat.le_refl _)
theorem spansOk_80 {z : Nat → Int} {n : Nat} {c : Int} (h : spansOk z n c = true) : spansOk z n 80 = true := by
  obtain ⟨h1, h2⟩ := spansOk_out h
  refine spansOk_yes (by omega) (by omega) h1.2.2 (fun j hj => ?_)
  obtain ⟨h3, h4⟩ := rowOk_parts (h2 j hj)
  exact rowOk_mk (spOk_iff.2 (by omega)) h4

def wdeF (z W s : Nat → Int) (n k : Nat) : Int := if begins z k = true then W k * (lookAt s n (k : Int)).1 else 0
def widesL (z W s : Nat → Int) (n m : Nat) : List Int := (List.range m).map (wdeF z W s n)
theorem widesL_len (z W s : Nat → Int) (n m : Nat) : (widesL z W s n m).length = m := by simp [widesL]
theorem fn_widesL {z W s : Nat → Int} {n m j : Nat} (h : j < m) : fn (widesL z W s n m) j = wdeF z W s n j := by simp [fn, widesL, h]
theorem widesL_succ (z W s : Nat → Int) (n m : Nat) : widesL z W s n (m + 1) = widesL z W s n m ++ [wdeF z W s n m] := by simp [widesL, List.range_succ]
theorem prod_bounds {a b : Int} (h1 : 0 ≤ a) (h2 : a ≤ 40) (h3 : 1 ≤ b) (h4 : b ≤ 40) : 0 ≤ a * b ∧ a * b ≤ 1600 := by
  constructor
  · exact Int.mul_nonneg h1 (by omega)
  · calc a * b ≤ 40 * b := Int.mul_le_mul_of_nonneg_right h2 (by omega)
      _ ≤ 1600 := by omega
theorem prod_bounds2 {a b : Int} (h1 : 0 ≤ a) (h2 : a ≤ 40) (h3 : -1000 ≤ b) (h4 : b ≤ 1000) : -40000 ≤ a * b ∧ a * b ≤ 40000 := by
  have h5 : a * b ≤ a * 1000 := Int.mul_le_mul_of_nonneg_left h4 h1
  have h6 : a * (-1000) ≤ a * b := Int.mul_le_mul_of_nonneg_left h3 h1
  omega
/-- How wide letters are, of letters and spans that may be wrong. -/
def widesR (l : List Int) (W : Nat → Int) (s : List Int) (n : Nat) : List Int :=
  if okF (fn l) l.length = true ∧ spansOk (fn s) n (l.length : Int) = true then widesL (fn l) W (fn s) n l.length else []
theorem widesR_len (l : List Int) (W : Nat → Int) (s : List Int) (n : Nat) : (widesR l W s n).length ≤ l.length := by
  unfold widesR; split
  · rw [widesL_len]; exact Nat.le_refl _
  · simp

set_option maxHeartbeats 4000000 in
theorem specL6Gen (v u : Value) (l s : List Int) (n m : Nat) (a0 : Option Addr) (cap : Nat) (W : Nat → Int) (w : World) (hm : Hid (l.length = m)) (hva : v = .slice a0 m cap) (hv : Arg w v l) (hu : ArgS w u n s) (hmb : m ≤ 1000) (hn12 : n ≤ 1000) (HEN : Hid (endsOk (fn s) n)) (hlo : Hid (∀ k : Nat, -1000 ≤ (lookAt (fn s) n (k : Int)).1 ∧ (lookAt (fn s) n (k : Int)).1 ≤ 1000)) (hW : Hid (∀ k : Nat, k < m → begins (fn l) k = true → ∃ e, Ends (fn l) m k e ∧ W k = wdMax (fn l) k (e - k))) :
    Calls Try.prog 40 #[v, u] w fun e w' => (∃ v', e = .returned v' ∧ OwnI w' w.heap.size v' (widesL (fn l) W (fn s) n m)) ∧ Below w.heap.size w w' := by
  subst hva
  have HU : Hid (ArgS w u n s) := hu
  have HV : Hid (Arg w (.slice a0 m cap) l) := hv
  have hu' : ∃ x y z, u = .slice x y z := by
    rcases hu with ⟨a, c, rfl, _⟩ | ⟨b, c, rfl, _⟩
    · exact ⟨_, _, _, rfl⟩
    · exact ⟨_, _, _, rfl⟩
  obtain ⟨x, y, z, rfl⟩ := hu'
  clear hu hv
  have ho := own_empty w w.heap.size 3 (Nat.le_refl _) rfl
  go_enter Try.func40, Try.ntmps40
  go_wp2_with fail
  go_loopw [5, 6] (fun o i wr => ∃ (k : Nat), k ≤ m ∧ i = .int .i64 k ∧ OwnI wr w.heap.size o (widesL (fn l) W (fn s) n k) ∧ Below w.heap.size w wr) (fun _ i _ => m - (intOf i).toNat)
  case atStart => exact ⟨0, Nat.zero_le _, rfl, ho, (Below.refl _ _).alloc (Nat.le_refl _) _⟩
  case round =>
    obtain ⟨k, hk, rfl, hown, hbel⟩ := hrel
    by_cases hlt : k < m
    · obtain ⟨b, off, rfl, hb, hat⟩ : ∃ b off, a0 = some ⟨b, off, none⟩ ∧ b < w.heap.size ∧ At w b off l := by
        rcases HV.out with ⟨a, c, e, h⟩ | ⟨b, off, c, e, h1, h2, h3, h4⟩
        · exfalso; have := hm.out; rw [h] at this; simp at this; omega
        · simp only [Value.slice.injEq] at e; exact ⟨b, off, e.1, h1, h4⟩
      have hbw := Nat.lt_of_lt_of_le hb hbel.size
      have HAT : Hid (∀ w', Below w.heap.size w w' → At w' b off l) := fun w' b1 => hat.below b1 hb
      have HU2 : Hid (∀ w', Below w.heap.size w w' → ArgS w' (.slice x y z) n s) := fun w' b1 => ArgS.below HU.out b1
      clear hat
      have hln : (widesL (fn l) W (fn s) n k).length ≤ 1073741824 := by rw [widesL_len]; omega
      have hBw : w.heap.size ≤ wr.heap.size := hbel.size
      by_cases hbg : begins (fn l) k = true
      · have HAE : Hid (atOf (fn l) k = k) := (atOf_self (fn l) k).2 hbg
        obtain ⟨e0, hE, hWk⟩ := hW.out k hlt hbg
        have HWK : Hid (W k = _) := hWk
        obtain ⟨lk, hlk⟩ : ∃ q, lookAt (fn s) n (k : Int) = q := ⟨_, rfl⟩
        have HLK : Hid _ := hlk
        have lb := hlo.out k
        rw [hlk] at lb
        have wb : 0 ≤ W k ∧ W k ≤ 40 := by rw [hWk]; exact wdMax_bounds _ _ _
        have pb := prod_bounds2 wb.1 wb.2 lb.1 lb.2
        have HVAL : Hid (W k * lk.1 = wdeF (fn l) W (fn s) n k) := by show _ = _; unfold wdeF; rw [if_pos hbg, HLK.out]
        obtain ⟨wk, hwk⟩ : ∃ q, W k = q := ⟨_, rfl⟩
        rw [hwk] at HWK HVAL pb wb
        clear hlk hWk hbg
        go_wp2_with fail
        refine (specL2At b off cap m l _ k _ hm.out hbw (HAT.out _ hbel) (by omega) rfl hlt).mono ?_
        rintro e w1 ⟨rfl, b1⟩
        rw [HAE.out]
        go_wp2_with fail
        have B1 := bstep hbel b1
        refine (specLookAt _ n s (k : Int) _ (HU2.out _ B1) (by omega) HEN lk HLK).mono ?_
        rintro e w2 ⟨rfl, b2⟩
        go_wp2_with fail
        have B2 := bstep B1 b2
        refine (specL2Wide b off cap m l _ k e0 _ hm.out (Nat.lt_of_lt_of_le hb B2.size) (HAT.out _ B2) (by omega) rfl hlt hE).mono ?_
        rintro e w3 ⟨rfl, b3⟩
        rw [← HWK.out]
        have B3 := bstep B2 b3
        have hown3 := ((hown.below b1).below b2).below b3
        have hB3 : w.heap.size ≤ w3.heap.size := B3.size
        go_wp2_with (at_builtin; refine own_append (.tmp 33) (.tmp 35) hown3 hln hB3 rfl rfl rfl rfl ?_; intro v5 w5 hown5 hgr5)
        refine ⟨⟨k + 1, by omega, by go_num, ?_, grown_below B3 hgr5 hown3 (Nat.le_refl _) hB3⟩, by simp only [intOf]; omega⟩
        rw [widesL_succ, ← HVAL.out]; exact hown5
      · have hbg2 : begins (fn l) k = false := by simpa using hbg
        have hne : atOf (fn l) k ≠ k := fun h => hbg ((atOf_self (fn l) k).1 h)
        have hle := atOf_le (fn l) k
        obtain ⟨at0, hat0⟩ : ∃ q, atOf (fn l) k = q := ⟨_, rfl⟩
        have HA0 : Hid _ := hat0
        rw [hat0] at hne hle
        have hne2 : ((at0 : Int) == (k : Int)) = false := by simp; omega
        have HVAL : Hid ((0 : Int) = wdeF (fn l) W (fn s) n k) := by show _ = _; unfold wdeF; rw [hbg2]; rfl
        clear hbg hbg2 hne hat0
        go_wp2_with fail
        refine (specL2At b off cap m l _ k _ hm.out hbw (HAT.out _ hbel) (by omega) rfl hlt).mono ?_
        rintro e w1 ⟨rfl, b1⟩
        rw [HA0.out]
        have B1 := bstep hbel b1
        have hown1 := hown.below b1
        have hB1 : w.heap.size ≤ w1.heap.size := B1.size
        go_wp2_with (at_builtin; refine own_append (.tmp 33) (.tmp 35) hown1 hln hB1 rfl rfl rfl rfl ?_; intro v5 w5 hown5 hgr5)
        refine ⟨⟨k + 1, by omega, by go_num, ?_, grown_below B1 hgr5 hown1 (Nat.le_refl _) hB1⟩, by simp only [intOf]; omega⟩
        rw [widesL_succ, ← HVAL.out]; exact hown5
    · have e : k = m := by omega
      subst e
      go_wp2_with fail
      go_ret
      exact ⟨⟨_, rfl, hown⟩, hbel⟩

theorem specL6Wides (v u : Value) (l s : List Int) (n m : Nat) (a0 : Option Addr) (cap : Nat) (W : Nat → Int) (w : World) (hm : Hid (l.length = m)) (hva : v = .slice a0 m cap) (hv : Arg w v l) (hu : ArgS w u n s) (hok : Hid (okF (fn l) l.length = true)) (hsp : Hid (spansOk (fn s) n (l.length : Int) = true)) (hW : Hid (∀ k : Nat, WideIs l (k : Int) (W k))) :
    Calls Try.prog 40 #[v, u] w fun e w' => (∃ v', e = .returned v' ∧ OwnI w' w.heap.size v' (widesL (fn l) W (fn s) n m)) ∧ Below w.heap.size w w' := by
  have h80 : m ≤ 80 := by have := okF_len hok.out; have := hm.out; omega
  have hn12 := (spansOk_out hsp.out).1.2.2
  refine specL6Gen v u l s n m a0 cap W w hm hva hv hu (by omega) (by omega) (endsOk_of hsp.out) (fun k => ?_) (fun k hk hb => ?_)
  · have := look_bounds (k : Int) hsp.out; omega
  · obtain ⟨e, h1, h2⟩ := wideIs_yes (hW.out k) hok.out (by rw [hm.out]; exact hk) hb
    rw [hm.out] at h1
    exact ⟨e, h1, h2⟩
theorem ends_fn (l : List Int) (m : Nat) : ∃ W : Nat → Int, ∀ k : Nat, k < m → begins (fn l) k = true → ∃ e, Ends (fn l) m k e ∧ W k = wdMax (fn l) k (e - k) := by
  have h : ∀ k : Nat, ∃ x : Int, k < m → begins (fn l) k = true → ∃ e, Ends (fn l) m k e ∧ x = wdMax (fn l) k (e - k) := fun k => by
    by_cases hk : k < m
    · obtain ⟨e, he⟩ := ends_exists (fn l) m k hk
      exact ⟨wdMax (fn l) k (e - k), fun _ _ => ⟨e, he, rfl⟩⟩
    · exact ⟨0, fun h => absurd h hk⟩
  exact ⟨fun k => Classical.choose (h k), fun k => Classical.choose_spec (h k)⟩

theorem ArgS.shape {w : World} {v : Value} {n : Nat} {l : List Int} (h : ArgS w v n l) : ∃ x z, v = .slice x n z := by
  rcases h with ⟨a, c, rfl, rfl⟩ | ⟨b, c, rfl, _⟩
  · exact ⟨_, _, rfl⟩
  · exact ⟨_, _, rfl⟩

set_option maxHeartbeats 2000000 in
theorem specWides (v u : Value) (l s : List Int) (n : Nat) (W : Nat → Int) (w : World) (hv : Arg w v l) (hu : ArgS w u n s) (hl : l.length ≤ 1048576) (hn : n ≤ 1048576) (hW : Hid (∀ k : Nat, WideIs l (k : Int) (W k))) :
    Calls Try.prog 12 #[v, u] w fun e w' => (∃ v', e = .returned v' ∧ OwnI w' w.heap.size v' (widesR l W s n)) ∧ Below w.heap.size w w' := by
  have HV : Hid (Arg w v l) := hv
  have HU : Hid (∀ w', Below w.heap.size w w' → ArgS w' u n s) := fun w' b => hu.below b
  have HV2 : Hid (∀ w', Below w.heap.size w w' → Arg w' v l) := fun w' b => hv.below b
  obtain ⟨a0, cap, rfl⟩ : ∃ a0 cap, v = .slice a0 l.length cap := by
    rcases hv with ⟨a, c, rfl, rfl⟩ | ⟨b, off, c, rfl, _⟩
    · exact ⟨_, _, rfl⟩
    · exact ⟨_, _, rfl⟩
  obtain ⟨x, z, rfl⟩ := hu.shape
  clear hv hu
  by_cases h1 : okF (fn l) l.length = true
  · have H1 : Hid _ := h1
    by_cases h2 : spansOk (fn s) n (l.length : Int) = true
    · have H2 : Hid _ := h2
      have HR : Hid (widesR l W s n = widesL (fn l) W (fn s) n l.length) := by show _ = _; unfold widesR; rw [if_pos ⟨h1, h2⟩]
      clear h1 h2
      obtain ⟨m, hm⟩ : ∃ m, l.length = m := ⟨_, rfl⟩
      have HM : Hid _ := hm
      rw [HR.out]
      rw [hm] at H2 hl HV HV2 ⊢
      clear hm
      go_enter Try.func12, Try.ntmps12
      go_wp2_with fail
      refine (specOk _ l _ HV.out (by rw [HM.out]; omega)).mono ?_
      rintro e w1 ⟨rfl, rfl⟩
      rw [H1.out]
      go_wp2_with fail
      refine (specSpansOk _ n s _ _ (HU.out _ (Below.refl _ _)) hn).mono ?_
      rintro e w2 ⟨rfl, b2⟩
      rw [H2.out]
      go_wp2_with fail
      refine (specL6Wides _ _ l s n m a0 cap W _ HM rfl (HV2.out _ b2) (HU.out _ b2) H1 ?_ hW).mono ?_
      · show spansOk _ _ _ = true; rw [HM.out]; exact H2.out
      rintro e w3 ⟨⟨v3, rfl, o3⟩, b3⟩
      go_wp2_with fail
      go_ret
      exact ⟨⟨_, rfl, o3.mono b2.size⟩, bstep b2 b3⟩
    · have h3 : spansOk (fn s) n (l.length : Int) = false := by simpa using h2
      have H2 : Hid _ := h3
      have HR : Hid (widesR l W s n = []) := by show _ = _; unfold widesR; rw [if_neg (fun hh => h2 hh.2)]
      rw [HR.out]
      clear h1 h2 h3
      go_enter Try.func12, Try.ntmps12
      go_wp2_with fail
      refine (specOk _ l _ HV.out (by omega)).mono ?_
      rintro e w1 ⟨rfl, rfl⟩
      rw [H1.out]
      go_wp2_with fail
      refine (specSpansOk _ n s _ _ (HU.out _ (Below.refl _ _)) hn).mono ?_
      rintro e w2 ⟨rfl, b2⟩
      rw [H2.out]
      have ho := own_empty w2 w1.heap.size 3 b2.size rfl
      go_wp2_with fail
      go_ret
      exact ⟨⟨_, rfl, ho⟩, bstep b2 ((Below.refl _ _).alloc (Nat.le_refl _) _)⟩
  · have h3 : okF (fn l) l.length = false := by simpa using h1
    have H1 : Hid _ := h3
    have HR : Hid (widesR l W s n = []) := by show _ = _; unfold widesR; rw [if_neg (fun hh => h1 hh.1)]
    rw [HR.out]
    clear h1 h3
    have ho := own_empty w w.heap.size 3 (Nat.le_refl _) rfl
    have HO : Hid _ := ho
    clear ho
    go_enter Try.func12, Try.ntmps12
    go_wp2_with fail
    refine (specOk _ l _ HV.out (by omega)).mono ?_
    rintro e w1 ⟨rfl, rfl⟩
    rw [H1.out]
    go_wp2_with fail
    go_ret
    exact ⟨⟨_, rfl, HO.out⟩, (Below.refl _ _).alloc (Nat.le_refl _) _⟩

set_option maxHeartbeats 4000000 in
theorem implWides (v u : Value) (l s : List Int) (n : Nat) (W : Nat → Int) (w : World) (hv : Arg w v l) (hu : ArgS w u n s) (hl : l.length ≤ 1048576) (hW : Hid (∀ k : Nat, WideIs l (k : Int) (W k))) :
    Calls Try.prog 10 #[v, u] w fun e w' => (∃ v', e = .returned v' ∧ OwnI w' w.heap.size v' (widesR l W s n)) ∧ Below w.heap.size w w' := by
  have HV : Hid (Arg w v l) := hv
  have HU : Hid (∀ w', Below w.heap.size w w' → ArgS w' u n s) := fun w' b => hu.below b
  have HV2 : Hid (∀ w', Below w.heap.size w w' → Arg w' v l) := fun w' b => hv.below b
  obtain ⟨a0, cap, rfl⟩ : ∃ a0 cap, v = .slice a0 l.length cap := by
    rcases hv with ⟨a, c, rfl, rfl⟩ | ⟨b, off, c, rfl, _⟩
    · exact ⟨_, _, rfl⟩
    · exact ⟨_, _, rfl⟩
  obtain ⟨x, z, rfl⟩ := hu.shape
  clear hv hu
  by_cases h1 : okF (fn l) l.length = true
  · have H1 : Hid _ := h1
    by_cases h2 : spansOk (fn s) n (l.length : Int) = true
    · have H2 : Hid _ := h2
      have HR : Hid (widesR l W s n = widesL (fn l) W (fn s) n l.length) := by show _ = _; unfold widesR; rw [if_pos ⟨h1, h2⟩]
      have h80 := okF_len h1
      clear h1 h2
      obtain ⟨m, hm⟩ : ∃ m, l.length = m := ⟨_, rfl⟩
      have HM : Hid _ := hm
      have HC : Hid (clus l = starts (fn l) m) := by show _ = _; rw [clus_ok H1.out, HM.out]
      rw [HR.out]
      rw [hm] at H2 hl HV HV2 h80 ⊢
      clear hm
      obtain ⟨i0, hi, hz0, hz1, hz2⟩ := info_parts infoM
      go_enter Try.func10, Try.ntmps10
      go_wp2_with fail
      refine (implOk _ l _ HV.out (by rw [HM.out]; omega)).mono ?_
      rintro e w1 ⟨rfl, rfl⟩
      rw [H1.out]
      go_wp2_with fail
      refine (implSpansOk _ n s _ _ (HU.out _ (Below.refl _ _))).mono ?_
      rintro e w2 ⟨rfl, b2⟩
      rw [H2.out]
      go_wp2_with (first | (at_make; refine wpList_make_full _ rfl _ _ 23 rfl w2.heap.size 3 i0 (.int .i64 0) 1 Try.underlying23 hi hz0 hz1 _ _ _ _ m rfl rfl rfl rfl (by rw [hz2]; omega) (by unfold maxLen; omega) (Nat.le_refl _) ?_; intro w3 hown hgrow))
      have b3 : Below w2.heap.size w2 w3 := (Below.refl _ _).grown hgrow (Nat.le_refl _) (by simp)
      have ho3 : OwnI w3 w2.heap.size (.slice (some ⟨w2.heap.size, 0, none⟩) m m) (List.replicate m 0) := made_row hown
      have B3 := bstep b2 b3
      have hl3 := ho3.lt w2.heap.size rfl
      clear hown hgrow
      refine (implStarts _ l _ (HV2.out _ B3) (by rw [HM.out]; omega)).mono ?_
      rintro e w4 ⟨⟨vs, rfl, os⟩, b4⟩
      rw [HC.out] at os
      have hsl := starts_len (fn l) m
      have ho4 := ho3.below b4
      have B4 := bstep B3 b4
      have OS : Hid (OwnI w4 w3.heap.size vs (starts (fn l) m)) := os
      obtain ⟨sa, sc, hvs⟩ : ∃ sa sc, vs = .slice sa (starts (fn l) m).length sc := by
        rcases os.forms with ⟨rfl, e⟩ | ⟨g, c, rfl, _⟩
        · exact ⟨none, 0, by rw [e]; rfl⟩
        · exact ⟨_, _, rfl⟩
      subst hvs
      obtain ⟨ns, hns⟩ : ∃ ns, (starts (fn l) m).length = ns := ⟨_, rfl⟩
      have HNS : Hid _ := hns
      rw [hns] at OS hsl ⊢
      clear os hns ho3
      go_wp2_with fail
      go_loopw [28] (fun i wr => ∃ (k : Nat) (l' : List Int), k ≤ ns ∧ i = .int .i64 k ∧ OwnI wr w2.heap.size (.slice (some ⟨w2.heap.size, 0, none⟩) m m) l' ∧ Hid (∀ i (j : Nat), i < k → fn (starts (fn l) m) i = (j : Int) → fn l' j = wdeF (fn l) W (fn s) n j) ∧ Hid (∀ j : Nat, j < m → (∀ i, i < k → fn (starts (fn l) m) i ≠ (j : Int)) → fn l' j = 0) ∧ Below w1.heap.size w1 wr ∧ Hid (OwnI wr w3.heap.size (.slice sa ns sc) (starts (fn l) m))) (fun i _ => ns - (intOf i).toNat)
      case atStart => exact ⟨0, _, Nat.zero_le _, rfl, ho4, fun i j hi => by omega, fun j hj _ => by simp [fn, hj], B4, OS⟩
      case round =>
        obtain ⟨k, l', hk, rfl, hown, hP, hZ, hbel, hos⟩ := hrel
        by_cases hlt : k < ns
        · obtain ⟨p, hpm, hpk, hpb⟩ := starts_of (z := fn l) (n := m) (i := k) (by rw [HNS.out]; exact hlt)
          obtain ⟨g, hsa, hcell⟩ : ∃ g, sa = some ⟨g, 0, none⟩ ∧ wr.cell? ⟨g, k, none⟩ = some (.int .i64 (p : Int)) := by
            rcases OwnI.forms hos.out with ⟨e, _⟩ | ⟨g, c, e, _, _, _, _, hat⟩
            · simp only [Value.slice.injEq] at e; omega
            · simp only [Value.slice.injEq] at e
              refine ⟨g, e.1, ?_⟩
              have := hat k (by rw [HNS.out]; exact hlt)
              rw [Nat.zero_add, hpk] at this; exact this
          subst hsa
          have hgl := OwnI.lt hos.out g rfl
          have HG : Hid (w3.heap.size ≤ g) := hgl.1
          obtain ⟨lk, hlk⟩ : ∃ q, lookAt (fn s) n (p : Int) = q := ⟨_, rfl⟩
          have HLK : Hid (spanAt (fn s) n (p : Int) = lk) := by show _ = _; unfold spanAt; rw [if_pos (spansOk_80 H2.out), hlk]
          have lb := look_bounds (p : Int) H2.out
          have wb := wideIs_bounds (hW.out p)
          rw [hlk] at lb
          have pb := prod_bounds wb.1 wb.2 lb.1 lb.2
          have HVAL : Hid (W p * lk.1 = wdeF (fn l) W (fn s) n p) := by show _ = _; unfold wdeF; rw [if_pos hpb, hlk]
          have HPK : Hid _ := hpk
          have hsz := hbel.size
          have HKE : Hid (∃ e0 : Nat, Ends (fn l) m p e0 ∧ (if k + 1 < ns then fn (starts (fn l) m) (k + 1) = (e0 : Int) else e0 = m) ∧ W p = wdMax (fn l) p (e0 - p)) := by
            show ∃ e0 : Nat, _
            obtain ⟨e0, he⟩ : ∃ e0 : Nat, (if k + 1 < ns then fn (starts (fn l) m) (k + 1) = (e0 : Int) else e0 = m) := by
              by_cases hk1 : k + 1 < ns
              · obtain ⟨q, _, h4, _⟩ := starts_of (z := fn l) (n := m) (i := k + 1) (by rw [HNS.out]; exact hk1)
                exact ⟨q, by rw [if_pos hk1]; exact h4⟩
              · exact ⟨m, by rw [if_neg hk1]⟩
            have hE : Ends (fn l) m p e0 := ends_starts (by rw [HNS.out]; exact hlt) HPK.out e0 (by rw [HNS.out]; exact he)
            refine ⟨e0, hE, he, ?_⟩
            have hmm := HM.out
            rcases hW.out p with ⟨hok, _⟩ | ⟨_, hfar, _⟩ | ⟨p', e1, _, _, hnb, _⟩ | ⟨p', e', e1, _, _, _, hE', e2⟩
            · rw [H1.out] at hok; cases hok
            · exfalso; apply hfar; omega
            · have : p' = p := by omega
              subst this; rw [hpb] at hnb; cases hnb
            · have : p' = p := by omega
              subst this
              rw [hmm] at hE'
              rw [e2, ends_same hE' hE]
          obtain ⟨wp, hwp⟩ : ∃ q, W p = q := ⟨_, rfl⟩
          rw [hwp] at HVAL pb wb HKE
          clear hgl hlk hpk hpb hwp
          go_wp2_with fail
          refine (implSpanAt _ n s (p : Int) _ (HU.out _ hbel) lk HLK).mono ?_
          rintro e w5 ⟨rfl, b5⟩
          go_wp2_with fail
          have B5 := bstep hbel b5
          obtain ⟨e0, hE, hEK, hwp⟩ := HKE.out
          obtain ⟨ba, offa, ha0, hba, hcapa, hata⟩ : ∃ ba offa, a0 = some ⟨ba, offa, none⟩ ∧ ba < w5.heap.size ∧ m ≤ cap ∧ At w5 ba offa l := by
            rcases HV2.out _ B5 with ⟨a, c, e, e2⟩ | ⟨ba, offa, c, e, h1, h2, _, h4⟩
            · exfalso; have := HM.out; rw [e2] at this; simp at this; omega
            · simp only [Value.slice.injEq] at e
              obtain ⟨e1, e2, e3⟩ := e
              subst e3
              exact ⟨ba, offa, e1, h1, by rw [e2]; exact h2, h4⟩
          subst ha0
          have hats5 : At w5 g 0 (starts (fn l) m) := by
            rcases OwnI.forms (OwnI.below hos.out b5) with ⟨e, _⟩ | ⟨g', c', e, _, _, _, _, hat'⟩
            · simp only [Value.slice.injEq] at e; cases e.1
            · simp only [Value.slice.injEq, Option.some.injEq, Addr.mk.injEq] at e
              obtain ⟨⟨rfl, _⟩, _⟩ := e
              exact hat'
          refine (wideOf_row ba offa cap m g sc ns k p e0 l (starts (fn l) m) w5 HM HNS hata hba hats5 hlt HPK hEK hE.lt hE.le hcapa (by omega) (by omega)).mono ?_
          rintro e w6 ⟨rfl, b6⟩
          rw [← hwp]
          clear hE hEK hwp hata hats5 HKE
          have B6 := bstep B5 b6
          have own6 := (hown.below b5).below b6
          have hos6 := (OwnI.below hos.out b5).below b6
          have hf := own6.frozenN p
          have hc := own6.cellN p hpm
          have OWN : Hid (OwnI w6 w2.heap.size (.slice (some ⟨w2.heap.size, 0, none⟩) m m) l') := own6
          have OS6 : Hid (OwnI w6 w3.heap.size (.slice (some ⟨g, 0, none⟩) ns sc) (starts (fn l) m)) := hos6
          have HB6 : Hid (Below w1.heap.size w1 w6) := B6
          clear own6 hos6 B6 hcell hown hos b5 b6
          have hb2 := b2.size
          go_wp2_with fail
          refine ⟨⟨k + 1, l'.set p (wp * lk.1), by omega, by go_num, OwnI.storedN OWN.out p _, fun i j hi hj => ?_, fun j hj hall => ?_, Below.setCell HB6.out (by show w1.heap.size ≤ w2.heap.size; exact hb2) _, ?_⟩, by simp only [intOf]; omega⟩
          · have e := OwnI.len OWN.out
            by_cases ej : j = p
            · subst ej; rw [fn_set_same (by omega)]; exact HVAL.out
            · rw [fn_set_other (by omega)]
              refine hP.out i j ?_ hj
              by_cases ei : i = k
              · subst ei; rw [HPK.out] at hj; omega
              · omega
          · have ne : j ≠ p := fun e => hall k (by omega) (by rw [HPK.out, e])
            rw [fn_set_other (by omega)]
            exact hZ.out j hj (fun i hi => hall i (by omega))
          · show OwnI _ _ _ _
            refine OwnI.kept OS6.out (fun kk hkk => ?_)
            have ek : kk = g := by simp [Value.ownBlock] at hkk; omega
            subst ek
            exact Below.heap_setCell _ _ _ _ (by show kk ≠ w2.heap.size; have := HG.out; omega)
        · have e : k = ns := by omega
          subst e
          have hlen := hown.len
          have HLN : Hid _ := hlen
          clear hlen
          go_wp2_with fail
          go_ret
          have el : l' = widesL (fn l) W (fn s) n m := by
            refine ext_fn (by rw [widesL_len]; exact HLN.out) (fun j hj => ?_)
            have hj2 : j < m := by have := HLN.out; omega
            rw [fn_widesL hj2]
            by_cases hb : begins (fn l) j = true
            · obtain ⟨i, hi, he⟩ := starts_idx (z := fn l) (n := m) hj2 hb
              exact hP.out i j (by rw [← HNS.out]; exact hi) he
            · have hb2 : begins (fn l) j = false := by simpa using hb
              have : wdeF (fn l) W (fn s) n j = 0 := by unfold wdeF; rw [hb2]; rfl
              rw [this]
              refine hZ.out j hj2 (fun i hi he => ?_)
              obtain ⟨q, _, hq, hqb⟩ := starts_of (z := fn l) (n := m) (i := i) (by rw [HNS.out]; exact hi)
              have : q = j := by omega
              subst this
              rw [hqb] at hb2; cases hb2
          rw [el] at hown
          exact ⟨⟨_, rfl, hown.mono b2.size⟩, hbel⟩
    · have h3 : spansOk (fn s) n (l.length : Int) = false := by simpa using h2
      have H2 : Hid _ := h3
      have HR : Hid (widesR l W s n = []) := by show _ = _; unfold widesR; rw [if_neg (fun hh => h2 hh.2)]
      rw [HR.out]
      clear h1 h2 h3
      go_enter Try.func10, Try.ntmps10
      go_wp2_with fail
      refine (implOk _ l _ HV.out (by omega)).mono ?_
      rintro e w1 ⟨rfl, rfl⟩
      rw [H1.out]
      go_wp2_with fail
      refine (implSpansOk _ n s _ _ (HU.out _ (Below.refl _ _))).mono ?_
      rintro e w2 ⟨rfl, b2⟩
      rw [H2.out]
      go_wp2_with fail
      go_ret
      exact ⟨⟨_, rfl, OwnI.nil _ _⟩, b2⟩
  · have h3 : okF (fn l) l.length = false := by simpa using h1
    have H1 : Hid _ := h3
    have HR : Hid (widesR l W s n = []) := by show _ = _; unfold widesR; rw [if_neg (fun hh => h1 hh.1)]
    rw [HR.out]
    clear h1 h3
    go_enter Try.func10, Try.ntmps10
    go_wp2_with fail
    refine (implOk _ l _ HV.out (by omega)).mono ?_
    rintro e w1 ⟨rfl, rfl⟩
    rw [H1.out]
    go_wp2_with fail
    go_ret
    exact ⟨⟨_, rfl, OwnI.nil _ _⟩, Below.refl _ _⟩
end Go.Proofs.Ytbacfaddljjopaa
